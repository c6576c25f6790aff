/- What the document's own Atoms, Dec, Text and Good of drafts come to, by a walk through each. -/
import Derived.Test.YtagpofhencpliaaRows
import Derived.Test.YtagpofhencpliaaTmM
import Derived.Test.YtagpofhencpliaaTmS
import Derived.Test.YtagpofhencpliaaTmA
import Derived.Test.YtagpofhencpliaaTmB
import Derived.Test.YtagpofhencpliaaTmC
import Derived.Test.YtagpofhencpliaaTmD
import Derived.Test.YtagpofhencpliaaTmE
import Derived.Test.YtagpofhencpliaaTmF
import Derived.Test.YtagpofhencpliaaTrA
import Derived.Test.YtagpofhencpliaaDigM
import Derived.Test.YtagpofhencpliaaDigL
import Derived.Test.YtagpofhencpliaaDecM
import Derived.Test.YtagpofhencpliaaInts
import Derived.Test.YtagpofhencpliaaSto
import Derived.Test.YtagpofhencpliaaBlk
import Derived.Test.YtagpofhencpliaaUtfM
import Derived.Test.YtagpofhencpliaaUtfG
import Derived.Test.YtagpofhencpliaaUtfR
import Derived.Test.YtagpofhencpliaaDigR
import Derived.Test.YtagpofhencpliaaDigA
import Derived.Test.YtagpofhencpliaaDigO
import Derived.Test.YtagpofhencpliaaDecR
import Derived.Test.YtagpofhencpliaaLdR
import Derived.Deep.Cut
import Derived.Deep.RegionHeld
import Derived.Deep.QuietTactic
import Derived.Deep.RegionWith
import Derived.BigQuiet
import Derived.Laws.ResultCell
set_option linter.unusedVariables false
set_option linter.unusedSimpArgs false
namespace Go.Proofs.Ytagpofhencpliaa
open Go.RowKit
namespace Tm
/-- A draft that may be, made of any. -/
def gdT (g s : Bool) (I F : List Int) (p q : Nat) : T := ⟨g, Dm.gdL I p, s, if s = true then Dm.gdL F q else []⟩
theorem gdT_may (g s : Bool) (I F : List Int) (p q : Nat) : may (gdT g s I F p q) = true := by
  unfold may gdT
  dsimp only
  rw [(Dm.okB_iff _).2 (Dm.gdL_ok I p)]
  cases s
  · rfl
  · rw [if_pos rfl, (Dm.okB_iff _).2 (Dm.gdL_ok F q)]; rfl
theorem gdT_len (g s : Bool) (I F : List Int) (p q : Nat) : (gdT g s I F p q).i.length ≤ p ∧ (gdT g s I F p q).f.length ≤ q := by
  unfold gdT
  dsimp only
  refine ⟨by rw [Dm.gdL_len]; omega, ?_⟩
  cases s
  · exact Nat.zero_le _
  · rw [if_pos rfl, Dm.gdL_len]; omega
end Tm
namespace Tr
open Tm
set_option maxHeartbeats 1600000 in
theorem atoms_any (g s : Bool) (a1 a2 : Option Addr) (n1 n2 c1 c2 : Nat) (I F : List Int) (w : World) (hi : Lst w (.slice a1 n1 c1) I) (hf : Lst w (.slice a2 n2 c2) F) (k1 : I.length = n1) (k2 : F.length = n2) (l1 : n1 ≤ 100000) (l2 : n2 ≤ 100000) :
    Calls Try.prog 10 #[.agg #[.bool g, .slice a1 n1 c1, .bool s, .slice a2 n2 c2]] w fun e w' => ∃ a c, e = .returned (.slice a (n1 + (sep s).length + n2) c) ∧ Own w' (w.heap.size + 1) (.slice a (n1 + (sep s).length + n2) c) (I ++ sep s ++ F) ∧ Q w w' := by
  have HI := Lib.hid (fun u (q : Q w u) => hi.q q)
  have HF := Lib.hid (fun u (q : Q w u) => hf.q q)
  have HL := Lib.hid (⟨k1, k2⟩ : _ ∧ _)
  clear hi hf k1 k2
  obtain ⟨z, hz⟩ : ∃ y, y = w.alloc (.cells #[.bool g, .slice a1 n1 c1, .bool s, .slice a2 n2 c2] 24) := ⟨_, rfl⟩
  have HQ := Lib.hid (show Q w z by rw [hz]; exact (Q.refl w).alloc _)
  have HB := Lib.hid (show Bk z w.heap.size 24 [.bool g, .slice a1 n1 c1, .bool s, .slice a2 n2 c2] by rw [hz]; exact Bk.new _ _ _)
  have HZ := Lib.hid (show z.heap.size = w.heap.size + 1 by rw [hz]; simp)
  have hol := Own.nil z (w.heap.size + 1)
  have HBZ := Lib.hid (Nat.le_of_eq HZ.out.symm)
  have HW := Lib.hid (show ([] : List Int).length + I.length < 1099511627776 from by rw [HL.out.1]; show 0 + _ < _; omega)
  have HIZ := Lib.hid (HI.out z HQ.out)
  have x1 := HB.out.cell 1 rfl
  cases s
  · go_enter Try.func10, Try.ntmps10
    go_upto_region 1 with fail
    rw [← hz]
    clear hz
    go_wp2_with (at_builtin; refine push_list hol HIZ.out rfl _ _ rfl (by rfl) (by rfl) HW.out HBZ.out ?_)
    intro v1 u1 ho1 hg1 hat1
    have HO1 := Lib.hid (show Own u1 (w.heap.size + 1) v1 I from ho1)
    have HQZ := Lib.hid (show Q z u1 from (Q.refl z).grown hg1 (fun k hk => by cases hk))
    clear ho1 hg1 hat1 x1 hol
    have x2 := (HB.out.q HQZ.out).cell 2 rfl
    have HO2 := Lib.hid (show Own u1 (w.heap.size + 1) v1 (I ++ []) from by rw [List.append_nil]; exact HO1.out)
    have HQZ2 := HQZ
    have x3 := (HB.out.q HQZ2.out).cell 3 rfl
    have HFU := Lib.hid (HF.out _ (HQ.out.trans HQZ2.out))
    have HW2 := Lib.hid (show (I ++ []).length + F.length < 1099511627776 from by rw [List.length_append, HL.out.1, HL.out.2]; show _ + 0 + _ < _; omega)
    have HBU2 := Lib.hid (Nat.le_trans HBZ.out HQZ2.out.le)
    go_wp2_with (at_builtin; refine push_list HO2.out HFU.out rfl _ _ rfl (by rfl) (by rfl) HW2.out HBU2.out ?_)
    intro v3 u3 ho3 hg3 hat3
    have HO3 := Lib.hid ho3
    have HQZ3 := Lib.hid (show Q z u3 from HQZ2.out.grown hg3 (fun k hk => by rw [HZ.out]; exact (HO2.out.lt k hk).1))
    clear ho3 hg3 hat3 x3
    have hfin : Own u3 (w.heap.size + 1) v3 (I ++ sep false ++ F) := by simpa [sep] using HO3.out
    obtain ⟨ra, rc, hr, _, _⟩ := hfin.lst.form0 (n := n1 + (sep false).length + n2) (by rw [List.length_append, List.length_append, HL.out.1, HL.out.2])
    subst hr
    have HFIN := Lib.hid hfin
    clear hfin
    go_wp2_with fail
    go_ret
    exact ⟨ra, rc, rfl, HFIN.out, HQ.out.trans HQZ3.out⟩
  · go_enter Try.func10, Try.ntmps10
    go_upto_region 1 with fail
    rw [← hz]
    clear hz
    go_wp2_with (at_builtin; refine push_list hol HIZ.out rfl _ _ rfl (by rfl) (by rfl) HW.out HBZ.out ?_)
    intro v1 u1 ho1 hg1 hat1
    have HO1 := Lib.hid (show Own u1 (w.heap.size + 1) v1 I from ho1)
    have HQZ := Lib.hid (show Q z u1 from (Q.refl z).grown hg1 (fun k hk => by cases hk))
    clear ho1 hg1 hat1 x1 hol
    have x2 := (HB.out.q HQZ.out).cell 2 rfl
    have HW1 := Lib.hid (show I.length < 1099511627776 from by rw [HL.out.1]; omega)
    have HBU := Lib.hid (Nat.le_trans HBZ.out HQZ.out.le)
    go_wp2_with (at_builtin; refine push_int HO1.out rfl _ _ rfl 10 (by rfl) (by rfl) HW1.out HBU.out ?_)
    intro v2 u2 ho2 hg2 hat2
    have HO2 := Lib.hid (show Own u2 (w.heap.size + 1) v2 (I ++ [10]) from ho2)
    have HQZ2 := Lib.hid (show Q z u2 from HQZ.out.grown hg2 (fun k hk => by rw [HZ.out]; exact (HO1.out.lt k hk).1))
    clear ho2 hg2 hat2 x2
    have x3 := (HB.out.q HQZ2.out).cell 3 rfl
    have HFU := Lib.hid (HF.out _ (HQ.out.trans HQZ2.out))
    have HW2 := Lib.hid (show (I ++ [10]).length + F.length < 1099511627776 from by rw [List.length_append, HL.out.1, HL.out.2]; show _ + 1 + _ < _; omega)
    have HBU2 := Lib.hid (Nat.le_trans HBZ.out HQZ2.out.le)
    go_wp2_with (at_builtin; refine push_list HO2.out HFU.out rfl _ _ rfl (by rfl) (by rfl) HW2.out HBU2.out ?_)
    intro v3 u3 ho3 hg3 hat3
    have HO3 := Lib.hid ho3
    have HQZ3 := Lib.hid (show Q z u3 from HQZ2.out.grown hg3 (fun k hk => by rw [HZ.out]; exact (HO2.out.lt k hk).1))
    clear ho3 hg3 hat3 x3
    have hfin : Own u3 (w.heap.size + 1) v3 (I ++ sep true ++ F) := by simpa [sep] using HO3.out
    obtain ⟨ra, rc, hr, _, _⟩ := hfin.lst.form0 (n := n1 + (sep true).length + n2) (by rw [List.length_append, List.length_append, HL.out.1, HL.out.2])
    subst hr
    have HFIN := Lib.hid hfin
    clear hfin
    go_wp2_with fail
    go_ret
    exact ⟨ra, rc, rfl, HFIN.out, HQ.out.trans HQZ3.out⟩

set_option maxHeartbeats 1600000 in
theorem dec_any (g s : Bool) (a1 a2 : Option Addr) (n1 n2 c1 c2 : Nat) (I F : List Int) (w : World) (hi : Lst w (.slice a1 n1 c1) I) (hf : Lst w (.slice a2 n2 c2) F) (k1 : I.length = n1) (k2 : F.length = n2) (l1 : n1 ≤ 100000) (l2 : n2 ≤ 100000) (hI : Dm.okD I) (hF : Dm.okD F) :
    Calls Try.prog 22 #[.agg #[.bool g, .slice a1 n1 c1, .bool s, .slice a2 n2 c2]] w fun e w' => ∃ a c, e = .returned (.agg #[.bool (Dm.cg g (Dm.num (I ++ F))), .slice a (Dm.dg (Dm.st (Dm.num (I ++ F)) n2).1).length c, .int .i64 ((Dm.st (Dm.num (I ++ F)) n2).2 : Nat)]) ∧ Lst w' (.slice a (Dm.dg (Dm.st (Dm.num (I ++ F)) n2).1).length c) (Dm.dg (Dm.st (Dm.num (I ++ F)) n2).1) ∧ Q w w' := by
  have HI := Lib.hid (fun u (q : Q w u) => hi.q q)
  have HF := Lib.hid (fun u (q : Q w u) => hf.q q)
  have HL := Lib.hid (⟨k1, k2⟩ : _ ∧ _)
  have HT := Lib.hid (fun u a c (h : Lst u (.slice a (n1 + n2) c) (I ++ F)) => (by
    refine (Er.trim_any g _ n2 (I ++ F) u h (by rw [List.length_append]; omega) (Dm.okD_append.2 ⟨hI, hF⟩) (by omega)).mono ?_
    rintro e w' ⟨x, rfl, hx, hq⟩
    obtain ⟨xa, xc, rfl⟩ := hx.shape
    exact ⟨xa, xc, rfl, hx, hq⟩ : Calls Try.prog 45 #[.agg #[.bool g, .slice a (n1 + n2) c, .int .i64 (n2 : Nat)]] u fun e w' => ∃ xa xc, e = .returned (.agg #[.bool (Dm.cg g (Dm.num (I ++ F))), .slice xa (Dm.dg (Dm.st (Dm.num (I ++ F)) n2).1).length xc, .int .i64 ((Dm.st (Dm.num (I ++ F)) n2).2 : Nat)]) ∧ Er.LF w' (u.heap.size + 2) (.slice xa (Dm.dg (Dm.st (Dm.num (I ++ F)) n2).1).length xc) (Dm.dg (Dm.st (Dm.num (I ++ F)) n2).1) ∧ Q u w'))
  generalize Dm.cg g (Dm.num (I ++ F)) = cs at *
  generalize (Dm.st (Dm.num (I ++ F)) n2).2 = S at *
  generalize Dm.dg (Dm.st (Dm.num (I ++ F)) n2).1 = Z at *
  obtain ⟨r, hr⟩ : ∃ r, r = Z.length := ⟨_, rfl⟩
  rw [← hr] at HT ⊢
  clear hi hf k1 k2 hr hI hF
  obtain ⟨y, hy⟩ : ∃ y, y = w.alloc (.cells #[.bool g, .slice a1 n1 c1, .bool s, .slice a2 n2 c2] 24) := ⟨_, rfl⟩
  have hqy : Q w y := by rw [hy]; exact (Q.refl w).alloc _
  have hby : Bk y w.heap.size 24 [.bool g, .slice a1 n1 c1, .bool s, .slice a2 n2 c2] := by rw [hy]; exact Bk.new _ _ _
  have hsy : y.heap.size = w.heap.size + 1 := by rw [hy]; simp
  obtain ⟨z, hz⟩ : ∃ z, z = y.alloc (.cells #[.bool false, .slice none 0 0, .int .i64 0] 40) := ⟨_, rfl⟩
  have hqz : Q y z := by rw [hz]; exact (Q.refl y).alloc _
  have HQ := Lib.hid (hqy.trans hqz)
  have HB := Lib.hid (hby.q hqz)
  have HD := Lib.hid (show Bk z (w.heap.size + 1) 40 [.bool false, .slice none 0 0, .int .i64 0] by rw [hz, ← hsy]; exact Bk.new _ _ _)
  have HZ := Lib.hid (show z.heap.size = w.heap.size + 2 by rw [hz]; simp [hsy])
  have HWD := Lib.hid (Nat.le_succ w.heap.size)
  have hz2 : z = (w.alloc (.cells #[.bool g, .slice a1 n1 c1, .bool s, .slice a2 n2 c2] 24)).alloc (.cells #[.bool false, .slice none 0 0, .int .i64 0] 40) := by rw [hz, hy]
  clear hqy hby hsy hqz hz hy
  have hol := Own.nil z (w.heap.size + 2)
  have HBZ := Lib.hid (Nat.le_of_eq HZ.out.symm)
  have HW := Lib.hid (show ([] : List Int).length + I.length < 1099511627776 from by rw [HL.out.1]; show 0 + _ < _; omega)
  have HIZ := Lib.hid (HI.out z HQ.out)
  have x1 := HB.out.cell 1 rfl
  go_enter Try.func22, Try.ntmps22
  go_upto_region 1 with fail
  rw [← hz2]
  clear hz2
  go_wp2_with (at_builtin; refine push_list hol HIZ.out rfl _ _ rfl (by rfl) (by rfl) HW.out HBZ.out ?_)
  intro v1 u1 ho1 hg1 hat1
  have HO1 := Lib.hid (show Own u1 (w.heap.size + 2) v1 I from ho1)
  have HQZ := Lib.hid (show Q z u1 from (Q.refl z).grown hg1 (fun k hk => by cases hk))
  clear ho1 hg1 hat1 x1 hol
  have x3 := (HB.out.q HQZ.out).cell 3 rfl
  have HFU := Lib.hid (HF.out _ (HQ.out.trans HQZ.out))
  have HW2 := Lib.hid (show I.length + F.length < 1099511627776 from by rw [HL.out.1, HL.out.2]; omega)
  have HBU2 := Lib.hid (Nat.le_trans HBZ.out HQZ.out.le)
  go_wp2_with (at_builtin; refine push_list HO1.out HFU.out rfl _ _ rfl (by rfl) (by rfl) HW2.out HBU2.out ?_)
  intro v3 u3 ho3 hg3 hat3
  have HQZ3 := Lib.hid (show Q z u3 from HQZ.out.grown hg3 (fun k hk => by rw [HZ.out]; exact (HO1.out.lt k hk).1))
  obtain ⟨ra, rc, rfl, _, _⟩ := ho3.lst.form0 (n := n1 + n2) (by rw [List.length_append, HL.out.1, HL.out.2])
  have HO3 := Lib.hid ho3.lst
  clear ho3 hg3 hat3 x3
  have x0 := (HB.out.q HQZ3.out).cell 0 rfl
  have x3 := (HB.out.q HQZ3.out).cell 3 rfl
  go_wp2_with fail
  refine (HT.out _ _ _ HO3.out).mono ?_
  rintro e u4 ⟨xa, xc, rfl, hx, hq⟩
  have HD4 := Lib.hid ((HD.out.q HQZ3.out).q hq)
  have HQ4 := Lib.hid ((HQ.out.trans HQZ3.out).trans hq)
  have hlp := hx.put (r := w.heap.size + 1) (Nat.lt_of_lt_of_le (by omega : w.heap.size + 1 < w.heap.size + 2) (Nat.le_trans HBZ.out (Nat.le_trans HQZ3.out.le (by omega)))) (.bool cs) (.slice xa r xc) (.int .i64 (S : Nat))
  have HLP := Lib.hid hlp.lst
  clear hx hq hlp x0 x3
  have b0 := HD4.out.cell 0 rfl
  have f0 := HD4.out.free 0
  have b1 := HD4.out.cell 1 rfl
  have f1 := HD4.out.free 1
  have b2 := HD4.out.cell 2 rfl
  have f2 := HD4.out.free 2
  go_wp2_with fail
  refine Er.ret_dv rfl rfl (((HD4.out.set 0 _).set 1 _).set 2 _) rfl ⟨xa, xc, rfl, HLP.out, Q.setCell (Q.setCell (Q.setCell HQ4.out HWD.out _) HWD.out _) HWD.out _⟩

set_option maxHeartbeats 1600000 in
theorem text_any (g s : Bool) (a1 a2 : Option Addr) (n1 n2 c1 c2 : Nat) (I F : List Int) (w : World) (hi : Lst w (.slice a1 n1 c1) I) (hf : Lst w (.slice a2 n2 c2) F) (k1 : I.length = n1) (k2 : F.length = n2) (l1 : n1 ≤ 100000) (l2 : n2 ≤ 100000) (hI : Dm.okD I) (hF : Dm.okD F) :
    Calls Try.prog 24 #[.agg #[.bool g, .slice a1 n1 c1, .bool s, .slice a2 n2 c2]] w fun e w' => e = .returned (.string (txt g s (Dm.txtB I) (Dm.txtB F))) ∧ Q w w' := by
  have HTA := Lib.hid (fun u (q : Q w u) => ((Dr.text_any _ I u (hi.q q) (by omega)).mono fun _ _ h => ⟨h.1 ((Dm.okB_iff I).2 hI), h.2.2⟩ : Calls Try.prog 47 #[.slice a1 n1 c1] u fun e w' => e = .returned (.string (Dm.txtB I)) ∧ Q u w'))
  have HTB := Lib.hid (fun u (q : Q w u) => ((Dr.text_any _ F u (hf.q q) (by omega)).mono fun _ _ h => ⟨h.1 ((Dm.okB_iff F).2 hF), h.2.2⟩ : Calls Try.prog 47 #[.slice a2 n2 c2] u fun e w' => e = .returned (.string (Dm.txtB F)) ∧ Q u w'))
  have s1 := Dm.txt_size I
  have s2 := Dm.txt_size F
  rw [k1] at s1
  rw [k2] at s2
  have s3 : (Dm.txtB I).size ≤ 100000 := by omega
  have s4 : (Dm.txtB F).size ≤ 100000 := by omega
  clear hi hf k1 k2 hI hF s1 s2
  generalize Dm.txtB I = A at *
  generalize Dm.txtB F = B at *
  obtain ⟨z, hz⟩ : ∃ y, y = w.alloc (.cells #[.bool g, .slice a1 n1 c1, .bool s, .slice a2 n2 c2] 24) := ⟨_, rfl⟩
  have HQ := Lib.hid (show Q w z by rw [hz]; exact (Q.refl w).alloc _)
  have HB := Lib.hid (show Bk z w.heap.size 24 [.bool g, .slice a1 n1 c1, .bool s, .slice a2 n2 c2] by rw [hz]; exact Bk.new _ _ _)
  have HZ := Lib.hid (show z.heap.size = w.heap.size + 1 by rw [hz]; simp)
  have x1 := HB.out.cell 1 rfl
  cases g <;> cases s
  · have h1 : ¬ (9223372036854775807 < A.size) := by omega
    have h2 : ¬ (9223372036854775807 < A.size) := by omega
    have h3 : ¬ (9223372036854775807 < A.size + B.size) := by omega
    go_enter Try.func24, Try.ntmps24
    go_upto_region 1 with fail
    rw [← hz]
    clear hz
    go_wp2_with fail
    refine (HTA.out _ HQ.out).mono ?_
    rintro e u1 ⟨rfl, hq1⟩
    have y0 := (HB.out.q hq1).cell 0 rfl
    have y2 := (HB.out.q hq1).cell 2 rfl
    have y3 := (HB.out.q hq1).cell 3 rfl
    have HQ1 := Lib.hid (HQ.out.trans hq1)
    clear x1 hq1
    go_wp2_with fail
    refine (HTB.out _ HQ1.out).mono ?_
    rintro e u2 ⟨rfl, hq2⟩
    have HQ2 := Lib.hid (HQ1.out.trans hq2)
    clear hq2 y0 y2 y3
    go_wp2_with fail
    go_ret
    exact ⟨retS (by first | (simp [txt]; done) | (rw [show (ByteArray.mk #[]) = ByteArray.empty from rfl]; simp [txt]; done)), HQ2.out⟩
  · have h1 : ¬ (9223372036854775807 < A.size) := by omega
    have h2 : ¬ (9223372036854775807 < A.size + 1) := by omega
    have h3 : ¬ (9223372036854775807 < A.size + 1 + B.size) := by omega
    go_enter Try.func24, Try.ntmps24
    go_upto_region 1 with fail
    rw [← hz]
    clear hz
    go_wp2_with fail
    refine (HTA.out _ HQ.out).mono ?_
    rintro e u1 ⟨rfl, hq1⟩
    have y0 := (HB.out.q hq1).cell 0 rfl
    have y2 := (HB.out.q hq1).cell 2 rfl
    have y3 := (HB.out.q hq1).cell 3 rfl
    have HQ1 := Lib.hid (HQ.out.trans hq1)
    clear x1 hq1
    go_wp2_with fail
    refine (HTB.out _ HQ1.out).mono ?_
    rintro e u2 ⟨rfl, hq2⟩
    have HQ2 := Lib.hid (HQ1.out.trans hq2)
    clear hq2 y0 y2 y3
    go_wp2_with fail
    go_ret
    exact ⟨retS (by first | (simp [txt]; done) | (rw [show (ByteArray.mk #[]) = ByteArray.empty from rfl]; simp [txt]; done)), HQ2.out⟩
  · have h1 : ¬ (9223372036854775807 < 1 + A.size) := by omega
    have h2 : ¬ (9223372036854775807 < 1 + A.size) := by omega
    have h3 : ¬ (9223372036854775807 < 1 + A.size + B.size) := by omega
    go_enter Try.func24, Try.ntmps24
    go_upto_region 1 with fail
    rw [← hz]
    clear hz
    go_wp2_with fail
    refine (HTA.out _ HQ.out).mono ?_
    rintro e u1 ⟨rfl, hq1⟩
    have y0 := (HB.out.q hq1).cell 0 rfl
    have y2 := (HB.out.q hq1).cell 2 rfl
    have y3 := (HB.out.q hq1).cell 3 rfl
    have HQ1 := Lib.hid (HQ.out.trans hq1)
    clear x1 hq1
    go_wp2_with fail
    refine (HTB.out _ HQ1.out).mono ?_
    rintro e u2 ⟨rfl, hq2⟩
    have HQ2 := Lib.hid (HQ1.out.trans hq2)
    clear hq2 y0 y2 y3
    go_wp2_with fail
    go_ret
    exact ⟨retS (by first | (simp [txt]; done) | (rw [show (ByteArray.mk #[]) = ByteArray.empty from rfl]; simp [txt]; done)), HQ2.out⟩
  · have h1 : ¬ (9223372036854775807 < 1 + A.size) := by omega
    have h2 : ¬ (9223372036854775807 < 1 + A.size + 1) := by omega
    have h3 : ¬ (9223372036854775807 < 1 + A.size + 1 + B.size) := by omega
    go_enter Try.func24, Try.ntmps24
    go_upto_region 1 with fail
    rw [← hz]
    clear hz
    go_wp2_with fail
    refine (HTA.out _ HQ.out).mono ?_
    rintro e u1 ⟨rfl, hq1⟩
    have y0 := (HB.out.q hq1).cell 0 rfl
    have y2 := (HB.out.q hq1).cell 2 rfl
    have y3 := (HB.out.q hq1).cell 3 rfl
    have HQ1 := Lib.hid (HQ.out.trans hq1)
    clear x1 hq1
    go_wp2_with fail
    refine (HTB.out _ HQ1.out).mono ?_
    rintro e u2 ⟨rfl, hq2⟩
    have HQ2 := Lib.hid (HQ1.out.trans hq2)
    clear hq2 y0 y2 y3
    go_wp2_with fail
    go_ret
    exact ⟨retS (by first | (simp [txt]; done) | (rw [show (ByteArray.mk #[]) = ByteArray.empty from rfl]; simp [txt]; done)), HQ2.out⟩

set_option maxRecDepth 100000 in
set_option maxHeartbeats 2000000 in
theorem good_any (g s : Bool) (a1 a2 : Option Addr) (n1 n2 c1 c2 : Nat) (I F : List Int) (w : World) (hi : Lst w (.slice a1 n1 c1) I) (hf : Lst w (.slice a2 n2 c2) F) (k1 : I.length = n1) (k2 : F.length = n2) (l1 : n1 ≤ 9223372036854775807) (l2 : n2 ≤ 9223372036854775807) (bi : ∀ n ∈ I, -9223372036854775808 ≤ n ∧ n ≤ 9223372036854775807) (bf : ∀ n ∈ F, -9223372036854775808 ≤ n ∧ n ≤ 9223372036854775807) (p q : Nat) (hp : p ≤ 1000) (hq : q ≤ 1000) :
    Calls Try.prog 9 #[.agg #[.bool g, .slice a1 n1 c1, .bool s, .slice a2 n2 c2], .int .i64 p, .int .i64 q] w fun e w' => ∃ x, e = .returned x ∧ LD w' (w.heap.size + 2) x (gdT g s I F p q) ∧ Q w w' := by
  have HG1 := Lib.hid (fun u (qq : Q w u) => Dr.good_any _ I p u (hi.q qq) (by omega) (by omega) bi)
  have HG2 := Lib.hid (fun u (qq : Q w u) => Dr.good_any _ F q u (hf.q qq) (by omega) (by omega) bf)
  have hgd : gdT g s I F p q = ⟨g, Dm.gdL I p, s, if s = true then Dm.gdL F q else []⟩ := rfl
  obtain ⟨G, hG⟩ : ∃ G, G = gdT g s I F p q := ⟨_, rfl⟩
  rw [← hG] at hgd ⊢
  generalize Dm.gdL I p = I2 at *
  generalize Dm.gdL F q = F2 at *
  obtain ⟨m1, hm1⟩ : ∃ m1, m1 = I2.length := ⟨_, rfl⟩
  obtain ⟨m2, hm2⟩ : ∃ m2, m2 = F2.length := ⟨_, rfl⟩
  have HG := Lib.hid hgd
  have HM := Lib.hid (⟨hm1.symm, hm2.symm⟩ : _ ∧ _)
  clear hi hf k1 k2 bi bf hgd hG hm1 hm2
  obtain ⟨y, hy⟩ : ∃ y, y = w.alloc (.cells #[.bool g, .slice a1 n1 c1, .bool s, .slice a2 n2 c2] 24) := ⟨_, rfl⟩
  have hqy : Q w y := by rw [hy]; exact (Q.refl w).alloc _
  have hby : Bk y w.heap.size 24 [.bool g, .slice a1 n1 c1, .bool s, .slice a2 n2 c2] := by rw [hy]; exact Bk.new _ _ _
  have hsy : y.heap.size = w.heap.size + 1 := by rw [hy]; simp
  obtain ⟨z, hz⟩ : ∃ z, z = y.alloc (.cells #[.bool false, .slice none 0 0, .bool false, .slice none 0 0] 24) := ⟨_, rfl⟩
  have hqz : Q y z := by rw [hz]; exact (Q.refl y).alloc _
  have HQ := Lib.hid (hqy.trans hqz)
  have HB := Lib.hid (hby.q hqz)
  have HD := Lib.hid (show Bk z (w.heap.size + 1) 24 [.bool false, .slice none 0 0, .bool false, .slice none 0 0] by rw [hz, ← hsy]; exact Bk.new _ _ _)
  have HZ := Lib.hid (show z.heap.size = w.heap.size + 2 by rw [hz]; simp [hsy])
  have HWD := Lib.hid (Nat.le_succ w.heap.size)
  have hz2 : z = (w.alloc (.cells #[.bool g, .slice a1 n1 c1, .bool s, .slice a2 n2 c2] 24)).alloc (.cells #[.bool false, .slice none 0 0, .bool false, .slice none 0 0] 24) := by rw [hz, hy]
  clear hqy hby hsy hqz hz hy
  go_enter Try.func9, Try.ntmps9
  go_upto_region 1 with fail
  rw [← hz2]
  clear hz2
  go_cut [7] from 8 (fun p wx => ∃ b ia ic, p = .pointer (some ⟨b, 0, none⟩) ∧ z.heap.size ≤ b ∧ Bk wx b 24 [.bool g, .slice ia m1 ic, .bool s, .slice none 0 0] ∧ Own wx z.heap.size (.slice ia m1 ic) I2 ∧ Q z wx)
  case first =>
    refine wp_region_held_drew (S := fun u => Q z u) (by kernel_rfl) (by exact (Q.refl z).drew) (fun hHeld => ?_)
    have hS : Q z z.drew := hHeld
    clear hHeld
    have hq : Q z z.drew := (Q.refl _).drew
    clear hq
    generalize z.drew = yR1x0 at *
    change wpAnyH _ _ _ _ _ _ #[false, false, false, false, false, false, false, false, false, false, false] _ _
    refine wpAnyH_take (i := 0) (v := ?vR1x1) (by (try simp only [List.getElem?_toArray, List.getElem?_cons_succ, List.getElem?_cons_zero]); rfl) (by kernel_rfl) (by kernel_rfl) (by kernel_rfl) (by exact fun _ _ _ h => h) (Or.inl ⟨by first | kernel_rfl | rfl, ?hyR1x1⟩) (by exact hS) ?rsR1x1
    case hyR1x1 => (intro uz hSw; (try dsimp only at hSw); go_simp; try with_reducible rfl)
    try simp only [Act.put, List.setIfInBounds_toArray, List.set_cons_zero, List.set_cons_succ]
    change wpAnyH _ _ _ _ _ _ #[true, false, false, false, false, false, false, false, false, false, false] _ _
    refine wpAnyH_take (i := 1) (v := ?vR1x2) (by (try simp only [List.getElem?_toArray, List.getElem?_cons_succ, List.getElem?_cons_zero]); rfl) (by kernel_rfl) (by kernel_rfl) (by kernel_rfl) (by exact fun _ _ _ h => h) (Or.inl ⟨by first | kernel_rfl | rfl, ?hyR1x2⟩) (by exact hS) ?rsR1x2
    case hyR1x2 => (intro uz hSw; (try dsimp only at hSw); have hxx := HB.out.q hSw; have d0 := hxx.cell 0 rfl; clear hxx; go_simp; try with_reducible rfl)
    try simp only [Act.put, List.setIfInBounds_toArray, List.set_cons_zero, List.set_cons_succ]
    change wpAnyH _ _ _ _ _ _ #[true, true, false, false, false, false, false, false, false, false, false] _ _
    refine wpAnyH_take (i := 2) (v := ?vR1x3) (by (try simp only [List.getElem?_toArray, List.getElem?_cons_succ, List.getElem?_cons_zero]); rfl) (by kernel_rfl) (by kernel_rfl) (by kernel_rfl) (by exact fun _ _ _ h => h) (Or.inl ⟨by first | kernel_rfl | rfl, ?hyR1x3⟩) (by exact hS) ?rsR1x3
    case hyR1x3 => (intro uz hSw; (try dsimp only at hSw); go_simp; try with_reducible rfl)
    try simp only [Act.put, List.setIfInBounds_toArray, List.set_cons_zero, List.set_cons_succ]
    change wpAnyH _ _ _ _ _ _ #[true, true, true, false, false, false, false, false, false, false, false] _ _
    refine wpAnyH_take (i := 3) (v := ?vR1x4) (by (try simp only [List.getElem?_toArray, List.getElem?_cons_succ, List.getElem?_cons_zero]); rfl) (by kernel_rfl) (by kernel_rfl) (by kernel_rfl) (by exact fun _ _ _ h => h) (Or.inl ⟨by first | kernel_rfl | rfl, ?hyR1x4⟩) (by exact hS) ?rsR1x4
    case hyR1x4 => (intro uz hSw; (try dsimp only at hSw); have hxx := HB.out.q hSw; have d0 := hxx.cell 1 rfl; clear hxx; go_simp; try with_reducible rfl)
    try simp only [Act.put, List.setIfInBounds_toArray, List.set_cons_zero, List.set_cons_succ]
    change wpAnyH _ _ _ _ _ _ #[true, true, true, true, false, false, false, false, false, false, false] _ _
    refine wpAnyH_take (i := 4) (v := ?vR1x5) (by (try simp only [List.getElem?_toArray, List.getElem?_cons_succ, List.getElem?_cons_zero]); rfl) (by kernel_rfl) (by kernel_rfl) (by kernel_rfl) (by exact fun _ _ _ h => h) (Or.inl ⟨by first | kernel_rfl | rfl, ?hyR1x5⟩) (by exact hS) ?rsR1x5
    case hyR1x5 => (intro uz hSw; (try dsimp only at hSw); go_simp; try with_reducible rfl)
    try simp only [Act.put, List.setIfInBounds_toArray, List.set_cons_zero, List.set_cons_succ]
    change wpAnyH _ _ _ _ _ _ #[true, true, true, true, true, false, false, false, false, false, false] _ _
    refine wpAnyH_take (i := 6) (v := ?vR1x6) (by (try simp only [List.getElem?_toArray, List.getElem?_cons_succ, List.getElem?_cons_zero]); rfl) (by kernel_rfl) (by kernel_rfl) (by kernel_rfl) (by exact fun _ _ _ h => h) (Or.inl ⟨by first | kernel_rfl | rfl, ?hyR1x6⟩) (by exact hS) ?rsR1x6
    case hyR1x6 => (intro uz hSw; (try dsimp only at hSw); go_simp; try with_reducible rfl)
    try simp only [Act.put, List.setIfInBounds_toArray, List.set_cons_zero, List.set_cons_succ]
    change wpAnyH _ _ _ _ _ _ #[true, true, true, true, true, false, true, false, false, false, false] _ _
    refine wpAnyH_take (i := 7) (v := ?vR1x7) (by (try simp only [List.getElem?_toArray, List.getElem?_cons_succ, List.getElem?_cons_zero]); rfl) (by kernel_rfl) (by kernel_rfl) (by kernel_rfl) (by exact fun _ _ _ h => h) (Or.inl ⟨by first | kernel_rfl | rfl, ?hyR1x7⟩) (by exact hS) ?rsR1x7
    case hyR1x7 => (intro uz hSw; (try dsimp only at hSw); have hxx := HB.out.q hSw; have d0 := hxx.cell 2 rfl; clear hxx; go_simp; try with_reducible rfl)
    try simp only [Act.put, List.setIfInBounds_toArray, List.set_cons_zero, List.set_cons_succ]
    change wpAnyH _ _ _ _ _ _ #[true, true, true, true, true, false, true, true, false, false, false] _ _
    refine wpAnyH_ready (rs := [5, 9]) (by kernel_rfl) (by simp) ?_
    refine (AllReadyH.cons (by (try simp only [List.getElem?_toArray, List.getElem?_cons_succ, List.getElem?_cons_zero]); rfl) (fun K hK => ?_) (AllReadyH.cons (by (try simp only [List.getElem?_toArray, List.getElem?_cons_succ, List.getElem?_cons_zero]); rfl) (fun K hK => ?_) AllReadyH.nil))
    · go_simp
      refine (HG1.out _ (HQ.out.trans hS)).mono ?_
      rintro e yR1x8 ⟨xo, rfl, hz0, hq⟩
      obtain ⟨ia, ic, rfl, _, _⟩ := hz0.lst.form0 HM.out.1
      have HI7 := Lib.hid (hz0.mono hS.le)
      clear hz0
      try (go_wp2_with fail)
      have hS2 := Q.trans hS hq
      refine hK.out _ _ (by exact hS2) (fun hHeld => ?_)
      clear hK K hHeld hS hq
      have hS := hS2
      clear hS2
      try simp only [Act.put, List.setIfInBounds_toArray, List.set_cons_zero, List.set_cons_succ]
      change wpAnyH _ _ _ _ _ _ #[true, true, true, true, true, true, true, true, false, false, false] _ _
      refine wpAnyH_take (i := 8) (v := ?vR1x9) (by (try simp only [List.getElem?_toArray, List.getElem?_cons_succ, List.getElem?_cons_zero]); rfl) (by kernel_rfl) (by kernel_rfl) (by kernel_rfl) (by exact fun _ _ _ h => h) (Or.inl ⟨by first | kernel_rfl | rfl, ?hyR1x9⟩) (by exact hS) ?rsR1x9
      case hyR1x9 => (intro uz hSw; (try dsimp only at hSw); go_simp; try with_reducible rfl)
      try simp only [Act.put, List.setIfInBounds_toArray, List.set_cons_zero, List.set_cons_succ]
      change wpAnyH _ _ _ _ _ _ #[true, true, true, true, true, true, true, true, true, false, false] _ _
      refine wpAnyH_ready (rs := [9]) (by kernel_rfl) (by simp) ?_
      refine (AllReadyH.cons (by (try simp only [List.getElem?_toArray, List.getElem?_cons_succ, List.getElem?_cons_zero]); rfl) (fun K hK => ?_) AllReadyH.nil)
      go_simp
      have hq := (Q.refl yR1x8).alloc (.cells #[.bool false, .slice none 0 0, .bool false, .slice none 0 0] 24)
      have HBX := Lib.hid (Bk.new yR1x8 24 [.bool false, .slice none 0 0, .bool false, .slice none 0 0])
      have HW_bX := Lib.hid (Q.le hS)
      have HI7 := Lib.hid (Own.q HI7.out hq)
      have hS2 := Q.trans hS hq
      refine hK.out _ _ (by exact hS2) (fun hHeld => ?_)
      clear hK K hHeld hS hq
      have hS := hS2
      clear hS2
      generalize yR1x8.alloc (.cells #[.bool false, .slice none 0 0, .bool false, .slice none 0 0] 24) = yR1x10 at *
      generalize yR1x8.heap.size = bX at *
      try simp only [Act.put, List.setIfInBounds_toArray, List.set_cons_zero, List.set_cons_succ]
      change wpAnyH _ _ _ _ _ _ #[true, true, true, true, true, true, true, true, true, true, false] _ _
      refine wpAnyH_ready (rs := [10]) (by kernel_rfl) (by simp) ?_
      refine (AllReadyH.cons (by (try simp only [List.getElem?_toArray, List.getElem?_cons_succ, List.getElem?_cons_zero]); rfl) (fun K hK => ?_) AllReadyH.nil)
      have b0 := HBX.out.cell 0 rfl
      have f0 := HBX.out.free 0
      have b1 := HBX.out.cell 1 rfl
      have f1 := HBX.out.free 1
      have b2 := HBX.out.cell 2 rfl
      have f2 := HBX.out.free 2
      have b3 := HBX.out.cell 3 rfl
      have f3 := HBX.out.free 3
      go_simp
      have hS2 := (Q.setCell (Q.setCell (Q.setCell (Q.setCell hS (ad := ⟨bX, 0, none⟩) HW_bX.out (.bool g)) (ad := ⟨bX, 1, none⟩) HW_bX.out (.slice ia m1 ic)) (ad := ⟨bX, 2, none⟩) HW_bX.out (.bool s)) (ad := ⟨bX, 3, none⟩) HW_bX.out (.slice none 0 0))
      have HE := Lib.hid ((((HBX.out.set 0 (.bool g)).set 1 (.slice ia m1 ic)).set 2 (.bool s)).set 3 (.slice none 0 0))
      replace HI7 := Lib.hid (Own_past4 HI7.out HBX.out (by decide) (.bool g) (.slice ia m1 ic) (.bool s) (.slice none 0 0))
      refine hK.out _ _ (by exact hS2) (fun hHeld => ?_)
      clear hK K hHeld hS
      have hS := hS2
      clear hS2 b0 f0 b1 f1 b2 f2 b3 f3
      generalize ((((yR1x10.setCell ⟨bX, 0, none⟩ (.bool g)).setCell ⟨bX, 1, none⟩ (.slice ia m1 ic)).setCell ⟨bX, 2, none⟩ (.bool s)).setCell ⟨bX, 3, none⟩ (.slice none 0 0)) = yR1x11 at *
      try simp only [Act.put, List.setIfInBounds_toArray, List.set_cons_zero, List.set_cons_succ]
      change wpAnyH _ _ _ _ _ _ #[true, true, true, true, true, true, true, true, true, true, true] _ _
      refine wpAnyH_done (by kernel_rfl) ?_ _
      go_wp2_with fail
      go_meet
      exact ⟨bX, ia, ic, rfl, HW_bX.out, HE.out, HI7.out, hS⟩
    · go_simp
      have hq := (Q.refl yR1x0).alloc (.cells #[.bool false, .slice none 0 0, .bool false, .slice none 0 0] 24)
      have HBX := Lib.hid (Bk.new yR1x0 24 [.bool false, .slice none 0 0, .bool false, .slice none 0 0])
      have HW_bX := Lib.hid (Q.le hS)
      have hS2 := Q.trans hS hq
      refine hK.out _ _ (by exact hS2) (fun hHeld => ?_)
      clear hK K hHeld hS hq
      have hS := hS2
      clear hS2
      generalize yR1x0.alloc (.cells #[.bool false, .slice none 0 0, .bool false, .slice none 0 0] 24) = yR1x12 at *
      generalize yR1x0.heap.size = bX at *
      try simp only [Act.put, List.setIfInBounds_toArray, List.set_cons_zero, List.set_cons_succ]
      change wpAnyH _ _ _ _ _ _ #[true, true, true, true, true, false, true, true, false, true, false] _ _
      refine wpAnyH_ready (rs := [5]) (by kernel_rfl) (by simp) ?_
      refine (AllReadyH.cons (by (try simp only [List.getElem?_toArray, List.getElem?_cons_succ, List.getElem?_cons_zero]); rfl) (fun K hK => ?_) AllReadyH.nil)
      go_simp
      refine (HG1.out _ (HQ.out.trans hS)).mono ?_
      rintro e yR1x13 ⟨xo, rfl, hz0, hq⟩
      obtain ⟨ia, ic, rfl, _, _⟩ := hz0.lst.form0 HM.out.1
      have HI7 := Lib.hid (hz0.mono hS.le)
      clear hz0
      try (go_wp2_with fail)
      have HBX := Lib.hid (Bk.q HBX.out hq)
      have hS2 := Q.trans hS hq
      refine hK.out _ _ (by exact hS2) (fun hHeld => ?_)
      clear hK K hHeld hS hq
      have hS := hS2
      clear hS2
      try simp only [Act.put, List.setIfInBounds_toArray, List.set_cons_zero, List.set_cons_succ]
      change wpAnyH _ _ _ _ _ _ #[true, true, true, true, true, true, true, true, false, true, false] _ _
      refine wpAnyH_take (i := 8) (v := ?vR1x14) (by (try simp only [List.getElem?_toArray, List.getElem?_cons_succ, List.getElem?_cons_zero]); rfl) (by kernel_rfl) (by kernel_rfl) (by kernel_rfl) (by exact fun _ _ _ h => h) (Or.inl ⟨by first | kernel_rfl | rfl, ?hyR1x14⟩) (by exact hS) ?rsR1x14
      case hyR1x14 => (intro uz hSw; (try dsimp only at hSw); go_simp; try with_reducible rfl)
      try simp only [Act.put, List.setIfInBounds_toArray, List.set_cons_zero, List.set_cons_succ]
      change wpAnyH _ _ _ _ _ _ #[true, true, true, true, true, true, true, true, true, true, false] _ _
      refine wpAnyH_ready (rs := [10]) (by kernel_rfl) (by simp) ?_
      refine (AllReadyH.cons (by (try simp only [List.getElem?_toArray, List.getElem?_cons_succ, List.getElem?_cons_zero]); rfl) (fun K hK => ?_) AllReadyH.nil)
      have b0 := HBX.out.cell 0 rfl
      have f0 := HBX.out.free 0
      have b1 := HBX.out.cell 1 rfl
      have f1 := HBX.out.free 1
      have b2 := HBX.out.cell 2 rfl
      have f2 := HBX.out.free 2
      have b3 := HBX.out.cell 3 rfl
      have f3 := HBX.out.free 3
      go_simp
      have hS2 := (Q.setCell (Q.setCell (Q.setCell (Q.setCell hS (ad := ⟨bX, 0, none⟩) HW_bX.out (.bool g)) (ad := ⟨bX, 1, none⟩) HW_bX.out (.slice ia m1 ic)) (ad := ⟨bX, 2, none⟩) HW_bX.out (.bool s)) (ad := ⟨bX, 3, none⟩) HW_bX.out (.slice none 0 0))
      have HE := Lib.hid ((((HBX.out.set 0 (.bool g)).set 1 (.slice ia m1 ic)).set 2 (.bool s)).set 3 (.slice none 0 0))
      replace HI7 := Lib.hid (Own_past4 HI7.out HBX.out (by decide) (.bool g) (.slice ia m1 ic) (.bool s) (.slice none 0 0))
      refine hK.out _ _ (by exact hS2) (fun hHeld => ?_)
      clear hK K hHeld hS
      have hS := hS2
      clear hS2 b0 f0 b1 f1 b2 f2 b3 f3
      generalize ((((yR1x13.setCell ⟨bX, 0, none⟩ (.bool g)).setCell ⟨bX, 1, none⟩ (.slice ia m1 ic)).setCell ⟨bX, 2, none⟩ (.bool s)).setCell ⟨bX, 3, none⟩ (.slice none 0 0)) = yR1x15 at *
      try simp only [Act.put, List.setIfInBounds_toArray, List.set_cons_zero, List.set_cons_succ]
      change wpAnyH _ _ _ _ _ _ #[true, true, true, true, true, true, true, true, true, true, true] _ _
      refine wpAnyH_done (by kernel_rfl) ?_ _
      go_wp2_with fail
      go_meet
      exact ⟨bX, ia, ic, rfl, HW_bX.out, HE.out, HI7.out, hS⟩
  case rest =>
    obtain ⟨b, ia, ic, rfl, hbu, hbk, hi7, hq⟩ := hcut
    obtain ⟨u7, hu7⟩ : ∃ x, x = wc := ⟨_, rfl⟩
    subst hu7
    have HB7 := Lib.hid (HB.out.q hq)
    have HD7 := Lib.hid (HD.out.q hq)
    have HQ7 := Lib.hid (HQ.out.trans hq)
    have HBU := Lib.hid hbu
    have HWX := Lib.hid (Nat.le_trans HQ.out.le hbu)
    have HNX := Lib.hid (show b ≠ w.heap.size + 1 by have := HZ.out; omega)
    have HZ7 := Lib.hid hq.le
    have HK7 := Lib.hid hbk
    have HI7 := Lib.hid hi7
    clear hbu hbk hi7 hq HD HB
    have x2 := HB7.out.cell 2 rfl
    have x3 := HB7.out.cell 3 rfl
    cases s
    · have y0 := HK7.out.cell 0 rfl
      have g0 := HK7.out.free 0
      have y1 := HK7.out.cell 1 rfl
      have g1 := HK7.out.free 1
      have y2 := HK7.out.cell 2 rfl
      have g2 := HK7.out.free 2
      have y3 := HK7.out.cell 3 rfl
      have g3 := HK7.out.free 3
      have b0 := HD7.out.cell 0 rfl
      have f0 := HD7.out.free 0
      have b1 := HD7.out.cell 1 rfl
      have f1 := HD7.out.free 1
      have b2 := HD7.out.cell 2 rfl
      have f2 := HD7.out.free 2
      have b3 := HD7.out.cell 3 rfl
      have f3 := HD7.out.free 3
      go_wp2_with fail
      have hz1 := Own_past4 HI7.out HD7.out (by decide) (.bool g) (.slice ia m1 ic) (.bool false) (.slice none 0 0)
      rw [HZ.out] at hz1
      refine ret_d rfl rfl rfl ((((HD7.out.set 0 _).set 1 _).set 2 _).set 3 _) rfl ⟨_, rfl, ?_, Q.setCell (Q.setCell (Q.setCell (Q.setCell HQ7.out HWD.out _) HWD.out _) HWD.out _) HWD.out _⟩
      rw [HG.out]
      exact ⟨ia, ic, none, 0, by dsimp only; rw [HM.out.1]; rfl, by dsimp only; rw [HM.out.1]; exact hz1, Own.nil _ _⟩
    · go_wp2_with fail
      refine (HG2.out _ HQ7.out).mono ?_
      rintro e u8 ⟨x8, rfl, ho8, hq⟩
      obtain ⟨fa, fc, rfl, _, _⟩ := ho8.lst.form0 HM.out.2
      have hk := HK7.out.q hq
      have y3 := hk.cell 3 rfl
      have g3 := hk.free 3
      have HK9 := Lib.hid (hk.set 3 (.slice fa m2 fc))
      have HI9 := Lib.hid (Own_past (HI7.out.q hq) hk (by decide) 3 (.slice fa m2 fc))
      have HF9 := Lib.hid (Own_past (ho8.mono HZ7.out) hk (by decide) 3 (.slice fa m2 fc))
      have HD9 := Lib.hid ((HD7.out.q hq).past (g := b) (i := 3) HNX.out (.slice fa m2 fc))
      have HQ9 := Lib.hid (Q.setCell (HQ7.out.trans hq) (ad := ⟨b, 3, none⟩) HWX.out (.slice fa m2 fc))
      obtain ⟨u9, hu9⟩ : ∃ u, u = u8.setCell ⟨b, 3, none⟩ (.slice fa m2 fc) := ⟨_, rfl⟩
      rw [← hu9] at HK9 HI9 HF9 HD9 HQ9
      clear hk ho8 hq HK7 HI7 HD7 HQ7 x2 x3
      go_upto_region 4 with fail
      rw [← hu9]
      clear hu9 y3 g3
      have y0 := HK9.out.cell 0 rfl
      have g0 := HK9.out.free 0
      have y1 := HK9.out.cell 1 rfl
      have g1 := HK9.out.free 1
      have y2 := HK9.out.cell 2 rfl
      have g2 := HK9.out.free 2
      have y3 := HK9.out.cell 3 rfl
      have g3 := HK9.out.free 3
      have b0 := HD9.out.cell 0 rfl
      have f0 := HD9.out.free 0
      have b1 := HD9.out.cell 1 rfl
      have f1 := HD9.out.free 1
      have b2 := HD9.out.cell 2 rfl
      have f2 := HD9.out.free 2
      have b3 := HD9.out.cell 3 rfl
      have f3 := HD9.out.free 3
      go_wp2_with fail
      have hz1 := Own_past4 HI9.out HD9.out (by decide) (.bool g) (.slice ia m1 ic) (.bool true) (.slice fa m2 fc)
      rw [HZ.out] at hz1
      have hz2 := Own_past4 HF9.out HD9.out (by decide) (.bool g) (.slice ia m1 ic) (.bool true) (.slice fa m2 fc)
      rw [HZ.out] at hz2
      refine ret_d rfl rfl rfl ((((HD9.out.set 0 _).set 1 _).set 2 _).set 3 _) rfl ⟨_, rfl, ?_, Q.setCell (Q.setCell (Q.setCell (Q.setCell HQ9.out HWD.out _) HWD.out _) HWD.out _) HWD.out _⟩
      rw [HG.out]
      exact ⟨ia, ic, fa, fc, by dsimp only; rw [if_pos trivial, HM.out.1, HM.out.2]; rfl, by dsimp only; rw [HM.out.1]; exact hz1, by dsimp only; rw [if_pos trivial, HM.out.2]; exact hz2⟩
end Tr
end Go.Proofs.Ytagpofhencpliaa
