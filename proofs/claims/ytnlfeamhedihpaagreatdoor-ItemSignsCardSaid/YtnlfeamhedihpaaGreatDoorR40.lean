/- What stands around a number, as the statement asks. (and more) -/
import Derived.Test.YtnlfeamhedihpaaGreatDoorR00
import Derived.Test.YtnlfeamhedihpaaGreatDoorR02
import Derived.Test.YtnlfeamhedihpaaGreatDoorR04
import Derived.Test.YtnlfeamhedihpaaGreatDoorR05
import Derived.Test.YtnlfeamhedihpaaGreatDoorR26
import Derived.Test.YtnlfeamhedihpaaGreatDoorR01
import Derived.Test.YtnlfeamhedihpaaGreatDoorR03
import Derived.Test.YtnlfeamhedihpaaGreatDoorR36
import Derived.Test.YtnlfeamhedihpaaGreatDoorR39
import Derived.Test.YtnlfeamhedihpaaGreatDoorR09
import Derived.Test.YtnlfeamhedihpaaGreatDoorR33
import Derived.Test.YtnlfeamhedihpaaGreatDoorR24
import Derived.Test.YtnlfeamhedihpaaGreatDoorR29
import Derived.Test.YtnlfeamhedihpaaGreatDoorR31
import Derived.Test.YtnlfeamhedihpaaGreatDoorR30
import Derived.Test.YtnlfeamhedihpaaGreatDoorR32
import Derived.Test.YtnlfeamhedihpaaGreatDoorRows
import Derived.Test.YtnlfeamhedihpaaGreatDoorR11
import Derived.Test.YtnlfeamhedihpaaGreatDoorR12
import Derived.Test.YtnlfeamhedihpaaGreatDoorR13
import Derived.Test.YtnlfeamhedihpaaGreatDoorR20
import Derived.Test.YtnlfeamhedihpaaGreatDoorR10
import Derived.Deep.QuietTactic
import Derived.BigQuiet
import Derived.Laws.Rows
import Derived.Laws.ResultCell
import Derived.Deep.RegionHeld
import Derived.Deep.Cut
set_option linter.unusedVariables false
set_option linter.unusedSimpArgs false
namespace Go.Proofs.YtnlfeamhedihpaaGreatDoor
open Go.RowKit
namespace Ro
open Um Cm Gm Lo
theorem mPl_in (A : List Pc.E) : ∀ k : Nat, 0 ≤ mPl A k ↔ ((3, []) : Pc.E) ∈ A := by
  induction A with
  | nil => intro k; exact ⟨fun h => absurd h (by decide : ¬ (0 : Int) ≤ -1), fun h => absurd h List.not_mem_nil⟩
  | cons p r ih =>
    intro k
    unfold mPl
    by_cases h : p = (3, [])
    · rw [if_pos h]
      exact ⟨fun _ => by rw [h]; exact List.mem_cons_self, fun _ => by omega⟩
    · rw [if_neg h, ih]
      exact ⟨fun k => List.mem_cons_of_mem _ k, fun k => (List.mem_cons.1 k).resolve_left (fun e => h e.symm)⟩
def sgs (l : List Pb.E) : Nat := l.countP fun e => e.1
theorem parP_fact (r : Lm.Rec) (A : List Pc.E) (h1 : Lm.cnt 3 A ≤ 1) (h3 : ∀ x ∈ A, x.1 = 3 → x.2 = []) : (∀ e ∈ parP r A, e.1 = e.2.isEmpty) ∧ sgs (parP r A) = Lm.cnt 3 A ∧ (parP r A).length ≤ 3 := by
  refine ⟨fun e he => ?_, ?_, ?_⟩
  · unfold parP at he
    split at he
    · obtain ⟨hm, hk⟩ := List.mem_filter.1 he
      simp only [List.mem_cons, List.not_mem_nil, or_false] at hm
      subst hm
      unfold keepP at hk
      simpa using hk
    · obtain ⟨hm, hk⟩ := List.mem_filter.1 he
      simp only [List.mem_cons, List.not_mem_nil, or_false] at hm
      rcases hm with rfl | rfl | rfl
      · unfold keepP at hk
        simpa using hk
      · rfl
      · unfold keepP at hk
        simpa using hk
  · unfold parP
    split
    · rename_i hneg
      have h0 : Lm.cnt 3 A = 0 := by
        unfold Lm.cnt
        rw [List.countP_eq_zero]
        intro x hx e
        have e1 : x.1 = 3 := by simpa using e
        have : ((3, []) : Pc.E) ∈ A := by
          have e2 := h3 x hx e1
          have : x = (3, []) := Prod.ext e1 e2
          exact this ▸ hx
        have := (mPl_in A 0).2 this
        omega
      rw [h0]
      unfold sgs
      rw [List.countP_eq_zero]
      intro x hx
      obtain ⟨hm, _⟩ := List.mem_filter.1 hx
      simp only [List.mem_cons, List.not_mem_nil, or_false] at hm
      subst hm
      simp
    · rename_i hneg
      have hm := (mPl_in A 0).1 (by omega)
      have h0 : Lm.cnt 3 A = 1 := by
        have : 0 < Lm.cnt 3 A := by
          unfold Lm.cnt
          rw [List.countP_pos_iff]
          exact ⟨_, hm, by rfl⟩
        omega
      rw [h0]
      unfold sgs
      rw [List.countP_filter]
      simp [List.countP_cons, keepP]
  · unfold parP
    split
    · exact Nat.le_trans (List.length_filter_le _ _) (by simp)
    · exact Nat.le_trans (List.length_filter_le _ _) (by simp)
theorem sgs_app (a b : List Pb.E) : sgs (a ++ b) = sgs a + sgs b := by unfold sgs; exact List.countP_append ..
def ahd (neg : Bool) (X : Pt.Pat) : List Pc.E := if neg = true then X.npre else X.pre
def bhd (neg : Bool) (X : Pt.Pat) : List Pc.E := if neg = true then X.nsuf else X.suf
theorem around_fact {r : Lm.Rec} {X : Pt.Pat} (hO : Lm.Ok r X) (neg : Bool) : (∀ e ∈ parP r (ahd neg X) ++ parP r (bhd neg X), e.1 = e.2.isEmpty) ∧ sgs (parP r (ahd neg X) ++ parP r (bhd neg X)) = (if neg = true then 1 else 0) ∧ (parP r (ahd neg X)).length ≤ 3 ∧ (parP r (bhd neg X)).length ≤ 3 := by
  have hm1 : ahd neg X ∈ Lm.affs X := by cases neg <;> simp [ahd, Lm.affs]
  have hm2 : bhd neg X ∈ Lm.affs X := by cases neg <;> simp [bhd, Lm.affs]
  have f1 := parP_fact r (ahd neg X) (cnt_le r X _ hO hm1) (fun x hx h => ((hO.aff _ hm1).2 x hx).2.2.2 (by omega))
  have f2 := parP_fact r (bhd neg X) (cnt_le r X _ hO hm2) (fun x hx h => ((hO.aff _ hm2).2 x hx).2.2.2 (by omega))
  refine ⟨fun e he => ?_, ?_, f1.2.2, f2.2.2⟩
  · rcases List.mem_append.1 he with h | h
    · exact f1.1 e h
    · exact f2.1 e h
  · rw [sgs_app, f1.2.1, f2.2.1]
    have := hO.sg
    cases neg <;> simp [ahd, bhd] <;> omega
theorem around_any (neg : Bool) (g : Nat) (r : Lm.Rec) (X : Pt.Pat) (a b c d cl : Value) (w : World) (hO : Lm.Ok r X) (hB : LB w g r X a b c d cl) :
    Calls Tryz.prog 27 #[.pointer (some ⟨g, 0, none⟩), .bool neg] w fun e w' => ∃ u v, e = .returned (.tuple #[u, v]) ∧ Pb.LstP w' u (parP r (ahd neg X)) ∧ Pb.LstP w' v (parP r (bhd neg X)) ∧ Q w w' := by
  cases neg with
  | true => exact around_true g r X a b c d cl w hO hB
  | false => exact around_false g r X a b c d cl w hO hB
theorem raround_any (neg : Bool) (r : Lm.Rec) (X : Pt.Pat) (a b c d : Value) (w : World) (hO : Lm.Ok r X) (hL : LL w X a b c d) :
    Calls Tryz.prog 32 #[lV r X a b c d, .bool neg] w fun e w' => ∃ u v, e = .returned (.tuple #[u, v]) ∧ Pb.LstP w' u (parP r (ahd neg X)) ∧ Pb.LstP w' v (parP r (bhd neg X)) ∧ Q w w' := by
  cases neg with
  | true => exact raround_true r X a b c d w hO hL
  | false => exact raround_false r X a b c d w hO hL
end Ro
end Go.Proofs.YtnlfeamhedihpaaGreatDoor
namespace Go.Proofs.YtnlfeamhedihpaaGreatDoor
open Go.RowKit
namespace Ro
open Um Cm Gm Lo
set_option maxRecDepth 100000 in
set_option maxHeartbeats 4000000 in
theorem record_any (g : Nat) (r : Lm.Rec) (X : Pt.Pat) (a b c d cl : Value) (w : World) (hB : LB w g r X a b c d cl) :
    Calls Tryz.prog 54 #[.pointer (some ⟨g, 0, none⟩)] w fun e w' => e = .returned (recV r) ∧ Q w w' := by
  obtain ⟨z, hz⟩ : ∃ z, z = w.alloc (.cells #[.string ⟨#[]⟩, .string ⟨#[]⟩, .string ⟨#[]⟩, .string ⟨#[]⟩, .string ⟨#[]⟩, .string ⟨#[]⟩, .string ⟨#[]⟩, .string ⟨#[]⟩] 64) := ⟨_, rfl⟩
  have hQZ : Q w z := by rw [hz]; exact (Q.refl w).alloc _
  have h2 : Bk z w.heap.size 64 [.string ⟨#[]⟩, .string ⟨#[]⟩, .string ⟨#[]⟩, .string ⟨#[]⟩, .string ⟨#[]⟩, .string ⟨#[]⟩, .string ⟨#[]⟩, .string ⟨#[]⟩] := by rw [hz]; exact Bk.new _ _ _
  have hb := (hB.q hQZ).1
  have HQZ := Lib.hid hQZ
  have c0 := hb.cell 0 rfl
  have c1 := hb.cell 1 rfl
  have c2 := hb.cell 2 rfl
  have c3 := hb.cell 3 rfl
  have c4 := hb.cell 4 rfl
  have c5 := hb.cell 5 rfl
  have c6 := hb.cell 6 rfl
  have c7 := hb.cell 7 rfl
  have HRV : Hid (recV r = .agg #[.string (Lm.bs r.nam), .string (Lm.bs r.pat), .string (Lm.bs r.sys), .string (Lm.bs r.dec), .string (Lm.bs r.grp), .string (Lm.bs r.min), .string (Lm.bs r.per), .string (Lm.bs r.cur)]) := Lib.hid rfl
  rw [HRV.out]
  generalize Lm.bs r.nam = s0 at *
  generalize Lm.bs r.pat = s1 at *
  generalize Lm.bs r.sys = s2 at *
  generalize Lm.bs r.dec = s3 at *
  generalize Lm.bs r.grp = s4 at *
  generalize Lm.bs r.min = s5 at *
  generalize Lm.bs r.per = s6 at *
  generalize Lm.bs r.cur = s7 at *
  go_enter Tryz.func54, Tryz.ntmps54
  go_upto_region 1 with fail
  rw [← hz]
  clear hz hb hB hQZ HRV
  have HW := Lib.hid (show w.heap.size ≤ w.heap.size by omega)
  obtain ⟨B, hB⟩ : ∃ B, B = w.heap.size := ⟨_, rfl⟩
  have HWB := Lib.hid (show w.heap.size ≤ B by omega)
  rw [← hB] at h2 ⊢
  clear hB HW
  have p0 := h2.cell 0 rfl
  have f0 := h2.free 0
  have p1 := h2.cell 1 rfl
  have f1 := h2.free 1
  have p2 := h2.cell 2 rfl
  have f2 := h2.free 2
  have p3 := h2.cell 3 rfl
  have f3 := h2.free 3
  have p4 := h2.cell 4 rfl
  have f4 := h2.free 4
  have p5 := h2.cell 5 rfl
  have f5 := h2.free 5
  have p6 := h2.cell 6 rfl
  have f6 := h2.free 6
  have p7 := h2.cell 7 rfl
  have f7 := h2.free 7
  have HFB := Lib.hid ((((((((h2.set 0 (.string s0)).set 1 (.string s1)).set 2 (.string s2)).set 3 (.string s3)).set 4 (.string s4)).set 5 (.string s5)).set 6 (.string s6)).set 7 (.string s7))
  have HFQ := Lib.hid (Q.setCell (Q.setCell (Q.setCell (Q.setCell (Q.setCell (Q.setCell (Q.setCell (Q.setCell HQZ.out (ad := ⟨B, 0, none⟩) HWB.out (.string s0)) (ad := ⟨B, 1, none⟩) HWB.out (.string s1)) (ad := ⟨B, 2, none⟩) HWB.out (.string s2)) (ad := ⟨B, 3, none⟩) HWB.out (.string s3)) (ad := ⟨B, 4, none⟩) HWB.out (.string s4)) (ad := ⟨B, 5, none⟩) HWB.out (.string s5)) (ad := ⟨B, 6, none⟩) HWB.out (.string s6)) (ad := ⟨B, 7, none⟩) HWB.out (.string s7))
  clear h2
  go_wp2_with fail
  refine ret_bk rfl Tryz.underlying64 (by exact infoLR) rfl HFB.out rfl ⟨?_, HFQ.out⟩
  rfl
end Ro
end Go.Proofs.YtnlfeamhedihpaaGreatDoor
namespace Go.Proofs.YtnlfeamhedihpaaGreatDoor
open Go.RowKit
namespace It
open Um Lo Ro
structure LOk (r : Lm.Rec) (X : Pt.Pat) : Prop where
  ok : Lm.Ok r X
  pr : X.pr ≤ 1000
  se : 0 ≤ X.se ∧ X.se ≤ 1000
  tx : ∀ A ∈ Lm.affs X, ∀ x ∈ A, okL x.2 = true
def fewB (X : Pt.Pat) : Bool := decide (X.pr ≤ 1000) && (decide (0 ≤ X.se ∧ X.se ≤ 1000) && (Lm.affs X).all fun A => A.all fun x => okL x.2)
theorem few_of {r : Lm.Rec} {X : Pt.Pat} (h : Lm.Ok r X) (hb : fewB X = true) : LOk r X := by
  unfold fewB at hb
  simp only [Bool.and_eq_true, decide_eq_true_eq, List.all_eq_true] at hb
  exact ⟨h, hb.1, hb.2.1, fun A hA x hx => hb.2.2 A hA x hx⟩
theorem few_mk : ∀ p, p < 10 → fewB (Lm.pX p) = true := by decide +kernel
theorem few_forty : ∀ p, p < 14 → fewB (Fm.P p) = true := by decide +kernel
theorem lok_mk {r : Lm.Rec} {X : Pt.Pat} (h : IsMk r X) : LOk r X := by
  obtain ⟨s, p, d, m, u, c, q, hs, hp, hd, hm, hu, hc, hq, rfl, rfl⟩ := h
  exact few_of (ok_of ⟨s, p, d, m, u, c, q, hs, hp, hd, hm, hu, hc, hq, rfl, rfl⟩) (few_mk p hp)
theorem lok_forty {i : Nat} (h : i < 40) : LOk (Fm.T i) (Fm.P (Fm.nP i)) := few_of (Fm.f_ok i h) (few_forty _ (Fm.nP_lt i h))
theorem pat_len : ∀ i, i < 40 → (Fm.T i).pat.length ≤ 1000 := by decide +kernel
theorem pat_forty {i : Nat} (h : i < 40) : (Pt.parseC (allL (Fm.T i).pat)).1 = Fm.P (Fm.nP i) := by
  obtain ⟨h1, h2, h3⟩ := Fm.ptC_B (Fm.nP i) (Fm.nP_lt i h)
  rw [Fm.pat_of i h, ← h1, allL_join _ (fun c hc => by simpa using List.all_eq_true.1 h3 c hc), h2]
theorem results_tmp_cell {fn : Func} {p u : Tmp} {ty : TypeId} (h : fn.results = #[.tmp u, .cell p ty]) (tmps : Array Value) (P : Program) (w : World) :
    (results fn tmps).run P w =
      ((asAddr (tmps.getD p undef)).run P w).andThen fun a w₁ => ((loadVar ty a).run P w₁).andThen fun v w₂ => .ok (.tuple #[tmps.getD u undef, v]) w₂ := by
  simp only [results, h]
  simp [Sem.run_bind, Result.andThen]
theorem ret_2 {fn : Func} {p q : Tmp} {T : TypeId} (h : fn.results = #[.tmp q, .cell p T]) {R : Ending → World → Prop} {a : Act} {w : World} {g : Nat} {l : List Value} {x : Value} {fs : _}
    (hu : Tryz.prog.underlying T = some (.struct fs)) (hi : (Tryz.prog.info? T).map (·.size) = some l.length)
    (hp : a.tmps.getD p undef = .pointer (some ⟨g, 0, none⟩)) (hx : a.tmps.getD q undef = x) (hg : Bk w g T l) (hd : a.defers = []) (hR : R (.returned (.tuple #[x, .agg l.toArray])) w) : bodyPost Tryz.prog fn R .ret a w := by
  refine bodyPost_ret (v := .tuple #[x, .agg l.toArray]) ?_ hd hR
  rw [results_tmp_cell h, hp, hx]
  simp [asAddr, Result.andThen, run_loadVar_row w g T T l.toArray (0, 0) _ hg hu rfl (by rw [hi]; simp)]
def RL (w : World) (v : Value) (r : Lm.Rec) (X : Pt.Pat) : Prop := ∃ a b c d, v = lV r X a b c d ∧ Ro.LL w X a b c d
theorem row_same (u : World) (b : Nat) (cs : Array Value) : Same b u (u.setRow b cs) := ⟨Nat.le_of_eq (by simp [World.setRow, World.putObj]), fun g hg _ => setRow_other u b g cs hg⟩
theorem LL_row {u : World} {b0 : Nat} {X : Pt.Pat} {a b c d : Value} (hz : Bk u b0 34 zL) (h : Ro.LL u X a b c d) (cs : Array Value) : Ro.LL (u.setRow b0 cs) X a b c d :=
  ⟨LstP_aside h.1 hz zL_sep (row_same _ _ _), LstP_aside h.2.1 hz zL_sep (row_same _ _ _), LstP_aside h.2.2.1 hz zL_sep (row_same _ _ _), LstP_aside h.2.2.2 hz zL_sep (row_same _ _ _)⟩
set_option maxRecDepth 100000 in
set_option maxHeartbeats 3200000 in
theorem locale_any (g0 g1 g2 g3 g4 g5 n : Int) (w : World) (h0 : -9223372036854775808 ≤ g0 ∧ g0 ≤ 9223372036854775807) (h1 : -9223372036854775808 ≤ g1 ∧ g1 ≤ 9223372036854775807) (h2 : -9223372036854775808 ≤ g2 ∧ g2 ≤ 9223372036854775807) (h3 : -9223372036854775808 ≤ g3 ∧ g3 ≤ 9223372036854775807) (h4 : -9223372036854775808 ≤ g4 ∧ g4 ≤ 9223372036854775807) (h5 : -9223372036854775808 ≤ g5 ∧ g5 ≤ 9223372036854775807) (hn : -9223372036854775808 ≤ n ∧ n ≤ 9223372036854775807) :
    Calls Tryz.prog 24 #[.agg #[.int .i64 g0, .int .i64 g1, .int .i64 g2, .int .i64 g3, .int .i64 g4, .int .i64 g5], .int .i64 n] w fun e w' => ∃ v r X, e = .returned v ∧ LOk r X ∧ (∀ u, Calls Tryz.prog 25 #[recV r] u fun e w' => ∃ g a b c d cl, e = .returned (.tuple #[.pointer (some ⟨g, 0, none⟩), Value.nilIface]) ∧ LB w' g r X a b c d cl ∧ Q u w') ∧ RL w' v r X ∧ Q w w' := by
  have HGO := Lib.hid (fun u => good_any g0 g1 g2 g3 g4 g5 u h0 h1 h2 h3 h4 h5)
  have HA := Lib.hid (fun u => Ur.around_any n 1048576 u hn.1 hn.2 (by omega) (by omega))
  have hab := around_bd n 1048576 (by omega)
  generalize around n 1048576 = m at *
  obtain ⟨y, hy⟩ : ∃ z, z = w.alloc (.cells #[.int .i64 g0, .int .i64 g1, .int .i64 g2, .int .i64 g3, .int .i64 g4, .int .i64 g5] 23) := ⟨_, rfl⟩
  have hqy : Q w y := by rw [hy]; exact (Q.refl w).alloc _
  have hgy : Bk y w.heap.size 23 [.int .i64 g0, .int .i64 g1, .int .i64 g2, .int .i64 g3, .int .i64 g4, .int .i64 g5] := by rw [hy]; exact Bk.new _ _ _
  obtain ⟨z, hz⟩ : ∃ z, z = y.alloc (.cells #[.string ⟨#[]⟩, .string ⟨#[]⟩, .string ⟨#[]⟩, .string ⟨#[]⟩, .string ⟨#[]⟩, .string ⟨#[]⟩, .string ⟨#[]⟩, .string ⟨#[]⟩, .slice none 0 0, .slice none 0 0, .slice none 0 0, .slice none 0 0, .int .i64 0, .int .i64 0, .int .i64 0, .int .i64 0, .int .i64 0] 34) := ⟨_, rfl⟩
  have hqz : Q y z := by rw [hz]; exact (Q.refl y).alloc _
  have HQZ := Lib.hid (hqy.trans hqz)
  have HGZ := Lib.hid (hgy.q hqz)
  have hsy : y.heap.size = w.heap.size + 1 := by rw [hy]; simp
  have hlz : Bk z y.heap.size 34 zL := by rw [hz]; exact Bk.new _ _ _
  rw [hsy] at hlz
  have HLZ := Lib.hid hlz
  have hz2 : z = (w.alloc (.cells #[.int .i64 g0, .int .i64 g1, .int .i64 g2, .int .i64 g3, .int .i64 g4, .int .i64 g5] 23)).alloc (.cells #[.string ⟨#[]⟩, .string ⟨#[]⟩, .string ⟨#[]⟩, .string ⟨#[]⟩, .string ⟨#[]⟩, .string ⟨#[]⟩, .string ⟨#[]⟩, .string ⟨#[]⟩, .slice none 0 0, .slice none 0 0, .slice none 0 0, .slice none 0 0, .int .i64 0, .int .i64 0, .int .i64 0, .int .i64 0, .int .i64 0] 34) := by rw [hz, hy]
  clear hqy hgy hqz hsy hlz hz hy h0 h1 h2 h3 h4 h5
  by_cases h3 : n.tmod 3 = 0
  · have h3b : (n.tmod 3 == 0) = true := by simpa using h3
    go_enter Tryz.func24, Tryz.ntmps24
    go_upto_region 1 with fail
    rw [← hz2]
    clear hz2
    have cg0 := HGZ.out.cell 0 rfl
    have cg1 := HGZ.out.cell 1 rfl
    have cg2 := HGZ.out.cell 2 rfl
    have cg3 := HGZ.out.cell 3 rfl
    have cg4 := HGZ.out.cell 4 rfl
    have cg5 := HGZ.out.cell 5 rfl
    go_wp2_with fail
    clear cg0 cg1 cg2 cg3 cg4 cg5
    refine (HGO.out _).mono ?_
    rintro e w1 ⟨r, rfl, ⟨X, hI⟩, hq1⟩
    have HI := Lib.hid hI
    have HQ1 := Lib.hid (HQZ.out.trans hq1)
    have HL1 := Lib.hid (HLZ.out.q hq1)
    clear hq1 hI
    go_wp2_with fail
    refine (rnew_mk HI.out _).mono ?_
    rintro e w2 ⟨a, b, c, d, rfl, hl2, hq2⟩
    have HLL := Lib.hid hl2
    have HQ2 := Lib.hid (HQ1.out.trans hq2)
    have HL2 := Lib.hid (HL1.out.q hq2)
    obtain ⟨a1, a2, rfl⟩ := hl2.1.shape
    obtain ⟨b1, b2, rfl⟩ := hl2.2.1.shape
    obtain ⟨c1, c2, rfl⟩ := hl2.2.2.1.shape
    obtain ⟨d1, d2, rfl⟩ := hl2.2.2.2.shape
    clear hl2 hq2
    go_wp2_with (refine wpList_store_row (by rfl) 34 _ _ (by rfl) (w.heap.size + 1) (lC r X (.slice a1 X.pre.length a2) (.slice b1 X.suf.length b2) (.slice c1 X.npre.length c2) (.slice d1 X.nsuf.length d2)).toArray (by rfl) (by rfl) 34 _ HL2.out (by exact infoL) rfl (Rw.all1 (by rfl)) ?_)
    exact ret_bk (l := lC r X (.slice a1 X.pre.length a2) (.slice b1 X.suf.length b2) (.slice c1 X.npre.length c2) (.slice d1 X.nsuf.length d2)) rfl Tryz.underlying34 (by exact infoL) rfl (Rw.Bk_row HL2.out _) rfl ⟨_, r, X, rfl, lok_mk HI.out, fun u => (new_mk HI.out u).mono fun e w' ⟨g, a, b, c, d, cl, h1, h2, _, h4⟩ => ⟨g, a, b, c, d, cl, h1, h2, h4⟩, ⟨_, _, _, _, rfl, LL_row HL2.out HLL.out _⟩, Rw.Q_row HQ2.out (Nat.le_succ _) _⟩
  · have h3b : (n.tmod 3 == 0) = false := by rw [beq_eq_false_iff_ne]; exact h3
    have HON := Lib.hid (fun q u (a : -9223372036854775808 ≤ q) (b : q ≤ 9223372036854775807) => Fr.one_any q u a b)
    have HOB := Lib.hid (fun q => around_bd q 40 (by omega))
    go_enter Tryz.func24, Tryz.ntmps24
    go_upto_region 1 with fail
    rw [← hz2]
    clear hz2
    go_wp2_with fail
    refine (HA.out _).mono ?_
    rintro e wa ⟨rfl, rfl⟩
    go_wp2_with fail
    refine (HON.out _ _ (by omega) (by omega)).mono ?_
    rintro e w1 ⟨rfl, hq1⟩
    obtain ⟨k, hk⟩ : ∃ k, k = (around (m / 3) 40).toNat := ⟨_, rfl⟩
    rw [← hk]
    have hk40 : k < 40 := by have := HOB.out (m / 3); omega
    clear hk
    have HKL := Lib.hid (lok_forty hk40)
    have HKN := Lib.hid (fun u => Ft.new_forty k hk40 u)
    have HKR := Lib.hid (fun u => Ro.new_any (Fm.T k) (Fm.P (Fm.nP k)) u (pat_forty hk40) (pat_len k hk40))
    have HQ1 := Lib.hid (HQZ.out.trans hq1)
    have HL1 := Lib.hid (HLZ.out.q hq1)
    clear hq1 hk40
    generalize Fm.T k = r at *
    generalize Fm.P (Fm.nP k) = X at *
    go_wp2_with fail
    refine (HKR.out _).mono ?_
    rintro e w2 ⟨a, b, c, d, rfl, hl2, hq2⟩
    have HLL := Lib.hid hl2
    have HQ2 := Lib.hid (HQ1.out.trans hq2)
    have HL2 := Lib.hid (HL1.out.q hq2)
    obtain ⟨a1, a2, rfl⟩ := hl2.1.shape
    obtain ⟨b1, b2, rfl⟩ := hl2.2.1.shape
    obtain ⟨c1, c2, rfl⟩ := hl2.2.2.1.shape
    obtain ⟨d1, d2, rfl⟩ := hl2.2.2.2.shape
    clear hl2 hq2
    go_wp2_with (refine wpList_store_row (by rfl) 34 _ _ (by rfl) (w.heap.size + 1) (lC r X (.slice a1 X.pre.length a2) (.slice b1 X.suf.length b2) (.slice c1 X.npre.length c2) (.slice d1 X.nsuf.length d2)).toArray (by rfl) (by rfl) 34 _ HL2.out (by exact infoL) rfl (Rw.all1 (by rfl)) ?_)
    exact ret_bk (l := lC r X (.slice a1 X.pre.length a2) (.slice b1 X.suf.length b2) (.slice c1 X.npre.length c2) (.slice d1 X.nsuf.length d2)) rfl Tryz.underlying34 (by exact infoL) rfl (Rw.Bk_row HL2.out _) rfl ⟨_, r, X, rfl, HKL.out, fun u => (HKN.out u).mono fun e w' ⟨g, a, b, c, d, cl, h1, h2, _, h4⟩ => ⟨g, a, b, c, d, cl, h1, h2, h4⟩, ⟨_, _, _, _, rfl, LL_row HL2.out HLL.out _⟩, Rw.Q_row HQ2.out (Nat.le_succ _) _⟩
end It
end Go.Proofs.YtnlfeamhedihpaaGreatDoor
namespace Go.Proofs.YtnlfeamhedihpaaGreatDoor
open Go.RowKit
namespace Ro
open Um Cm Gm Lo
theorem dgt_enc {r : Lm.Rec} (h : 0 ≤ Sm.nz r.sys) (k : Nat) (hk : k < 10) : Lm.dgt r k = encB (Sm.nz r.sys + k) := by
  unfold Lm.dgt Sm.dgS
  rw [if_neg (by omega), if_pos (by omega)]
theorem syms_at (r : Lm.Rec) (k : Nat) (hk : k < 10) : (Lm.syms r)[k]? = some (Lm.dgt r k) := by
  match k, hk with
  | 0, _ => rfl
  | 1, _ => rfl
  | 2, _ => rfl
  | 3, _ => rfl
  | 4, _ => rfl
  | 5, _ => rfl
  | 6, _ => rfl
  | 7, _ => rfl
  | 8, _ => rfl
  | 9, _ => rfl
theorem plc_drop (r : Lm.Rec) (x : ByteArray) (k : Nat) (hk : k < 10) : Lm.plc x ((Lm.syms r).drop k) k = if x = Lm.dgt r k then (k : Int) else Lm.plc x ((Lm.syms r).drop (k + 1)) (k + 1) := by
  obtain ⟨hl, e⟩ := List.getElem?_eq_some_iff.1 (syms_at r k hk)
  rw [List.drop_eq_getElem_cons hl, e]; rfl
theorem sgn_end {r : Lm.Rec} {X : Pt.Pat} (hO : Lm.Ok r X) (x : ByteArray) (h : Lm.sgn r x = if x.size = 0 then -1 else Lm.plc x ((Lm.syms r).drop 10) 10) :
    Lm.sgn r x = if x = Lm.bs r.dec then 10 else if 0 < X.pr ∧ x = Lm.bs r.grp then 11 else if x = Lm.bs r.min then 12 else -1 := by
  have hd : (Lm.syms r).drop 10 = [Lm.bs r.dec, Lm.bs r.grp, Lm.bs r.min] := rfl
  have n10 := hO.ne 10 (Lm.bs r.dec) rfl (by omega)
  have n12 := hO.ne 12 (Lm.bs r.min) rfl (by omega)
  rw [h, hd]
  by_cases hz : x.size = 0
  · rw [if_pos hz, if_neg (fun e => by rw [e] at hz; omega)]
    have hg : ¬ (0 < X.pr ∧ x = Lm.bs r.grp) := fun ⟨hp, e⟩ => by
      have h2 := hO.grp1 hp
      unfold Lm.symB at h2
      rw [Bool.and_eq_true] at h2
      have h3 := h2.2
      rw [e, Lm.bs_size] at hz
      have h4 : r.grp = [] := List.eq_nil_of_length_eq_zero hz
      rw [h4] at h3
      simp [oneB] at h3
    rw [if_neg hg, if_neg (fun e => by rw [e] at hz; omega)]
  · rw [if_neg hz]
    unfold Lm.plc
    by_cases h1 : x = Lm.bs r.dec
    · rw [if_pos h1, if_pos h1]; rfl
    · rw [if_neg h1, if_neg h1]
      unfold Lm.plc
      by_cases h2 : x = Lm.bs r.grp
      · have hp : 0 < X.pr := by
          rcases Int.lt_or_le 0 X.pr with h3 | h3
          · exact h3
          · have h4 := hO.grp0 (by omega)
            rw [h2, Lm.bs_size, h4] at hz
            exact absurd rfl hz
        rw [if_pos h2, if_pos ⟨hp, h2⟩]; rfl
      · rw [if_neg h2, if_neg (fun h => h2 h.2)]
        unfold Lm.plc
        by_cases h3 : x = Lm.bs r.min
        · rw [if_pos h3, if_pos h3]; rfl
        · rw [if_neg h3, if_neg h3]; rfl
set_option maxRecDepth 100000 in
set_option maxHeartbeats 4000000 in
theorem rsign_any (r : Lm.Rec) (X : Pt.Pat) (a b c d : Value) (x : ByteArray) (w : World) (hO : Lm.Ok r X) (hL : LL w X a b c d) :
    Calls Tryz.prog 18 #[lV r X a b c d, .string x] w fun e w' => e = .returned (.int .i64 (Lm.sgn r x)) ∧ Q w w' := by
  have HD := Lib.hid (fun (k : Nat) (hk : k < 10) u => (show Calls Tryz.prog 34 #[.string (Lm.bs r.sys), .int .i64 (k : Int)] u fun e w' => e = .returned (.string (Lm.dgt r k)) ∧ Q u w' by
    have h := Sr.digit_any (Lm.bs r.sys) (k : Int) u (by omega) (by omega)
    rw [Lm.bs_list] at h
    rw [dgt_enc hO.sys k hk]; exact h))
  have HNE := Lib.hid (fun (k : Nat) (hk : k < 10) => hO.ne k (Lm.dgt r k) (syms_at r k hk) (by omega))
  have HST := Lib.hid (fun (k : Nat) (hk : k < 10) => plc_drop r x k hk)
  have HEN := Lib.hid (sgn_end hO x)
  have HZ := Lib.hid (show Lm.sgn r x = if x.size = 0 then -1 else Lm.plc x ((Lm.syms r).drop 0) 0 from rfl)
  obtain ⟨R, hR⟩ : ∃ R, R = Lm.sgn r x := ⟨_, rfl⟩
  rw [← hR] at HEN HZ ⊢
  obtain ⟨a1, a2, rfl⟩ := hL.1.shape
  obtain ⟨b1, b2, rfl⟩ := hL.2.1.shape
  obtain ⟨c1, c2, rfl⟩ := hL.2.2.1.shape
  obtain ⟨d1, d2, rfl⟩ := hL.2.2.2.shape
  generalize X.pre.length = n1 at *
  generalize X.suf.length = n2 at *
  generalize X.npre.length = n3 at *
  generalize X.nsuf.length = n4 at *
  unfold lV
  generalize X.pr = pr at *
  generalize Lm.bs r.nam = s0 at *
  generalize Lm.bs r.pat = s1 at *
  generalize Lm.bs r.sys = s2 at *
  generalize Lm.bs r.dec = s3 at *
  generalize Lm.bs r.grp = s4 at *
  generalize Lm.bs r.min = s5 at *
  generalize Lm.bs r.per = s6 at *
  generalize Lm.bs r.cur = s7 at *
  generalize Lm.dgt r = DG at *
  generalize Lm.syms r = SY at *
  clear hO hL hR
  obtain ⟨z, hz⟩ : ∃ z, z = w.alloc (.cells #[.string s0, .string s1, .string s2, .string s3, .string s4, .string s5, .string s6, .string s7, .slice a1 n1 a2, .slice b1 n2 b2, .slice c1 n3 c2, .slice d1 n4 d2, .int .i64 pr, .int .i64 X.se, .int .i64 X.mi, .int .i64 X.mf, .int .i64 X.xf] 34) := ⟨_, rfl⟩
  have HQZ := Lib.hid (show Q w z by rw [hz]; exact (Q.refl w).alloc _)
  have HBZ := Lib.hid (show Bk z w.heap.size 34 [.string s0, .string s1, .string s2, .string s3, .string s4, .string s5, .string s6, .string s7, .slice a1 n1 a2, .slice b1 n2 b2, .slice c1 n3 c2, .slice d1 n4 d2, .int .i64 pr, .int .i64 X.se, .int .i64 X.mi, .int .i64 X.mf, .int .i64 X.xf] by rw [hz]; exact Bk.new _ _ _)
  go_enter Tryz.func18, Tryz.ntmps18
  go_wp2_with fail
  rw [← hz]
  clear hz
  generalize w.heap.size = bz at *
  go_loopw [5] (fun i wr => ∃ k : Nat, i = .int .i64 k ∧ k ≤ 10 ∧ Hid (R = if x.size = 0 then -1 else Lm.plc x (SY.drop k) k) ∧ Q z wr) (fun i _ => 10 - (intOf i).toNat)
  case atStart => exact ⟨0, rfl, by omega, HZ, Q.refl _⟩
  case round =>
    obtain ⟨k, rfl, hk, HK, hq⟩ := hrel
    by_cases hlt : k < 10
    · have hlti : (k : Int) < 10 := by omega
      have c2 := (HBZ.out.q hq).cell 2 rfl
      have hne := HNE.out k hlt
      have hst := HST.out k hlt
      have hdd := HD.out k hlt
      generalize DG k = D at *
      by_cases hx : x = D
      · have HF := Lib.hid (show R = k by rw [HK.out, if_neg (by rw [hx]; omega), hst, if_pos hx])
        have hb : (D.toList == x.toList) = true := by rw [hx]; simp
        have HDD := Lib.hid hdd
        clear hx hne hst hdd
        go_wp2_with fail
        refine (HDD.out _).mono ?_
        rintro e w1 ⟨rfl, hq1⟩
        go_wp2_with fail
        go_ret
        rw [HF.out]
        exact ⟨rfl, HQZ.out.trans (hq.trans hq1)⟩
      · have HF := Lib.hid (show R = if x.size = 0 then -1 else Lm.plc x (SY.drop (k + 1)) (k + 1) by rw [HK.out, hst, if_neg hx])
        have hb : (D.toList == x.toList) = false := str_ne (fun e => hx e.symm)
        have HDD := Lib.hid hdd
        clear hx hne hst hdd
        go_wp2_with fail
        refine (HDD.out _).mono ?_
        rintro e w1 ⟨rfl, hq1⟩
        go_wp2_with fail
        exact ⟨⟨k + 1, by go_num, by omega, HF, hq.trans hq1⟩, by simp [intOf]; omega⟩
    · have hnlt : ¬ (k : Int) < 10 := by omega
      obtain rfl : k = 10 := by omega
      have hen := HEN.out HK.out
      have hbz := HBZ.out.q hq
      have c3 := hbz.cell 3 rfl
      have c4 := hbz.cell 4 rfl
      have c5 := hbz.cell 5 rfl
      have c12 := hbz.cell 12 rfl
      have HQ := Lib.hid (HQZ.out.trans hq)
      clear hbz hq
      by_cases h1 : x = s3
      · have HF := Lib.hid (show R = 10 by rw [hen, if_pos h1])
        have hb : (x.toList == s3.toList) = true := by rw [h1]; simp
        clear h1 hen
        go_wp2_with fail
        go_ret
        rw [HF.out]
        exact ⟨rfl, HQ.out⟩
      · have hb := str_ne h1
        by_cases h2 : 0 < pr
        · by_cases h3 : x = s4
          · have HF := Lib.hid (show R = 11 by rw [hen, if_neg h1, if_pos ⟨h2, h3⟩])
            have hb2 : (x.toList == s4.toList) = true := by rw [h3]; simp
            clear h1 h3 hen
            go_wp2_with fail
            go_ret
            rw [HF.out]
            exact ⟨rfl, HQ.out⟩
          · have hb2 := str_ne h3
            by_cases h4 : x = s5
            · have HF := Lib.hid (show R = 12 by rw [hen, if_neg h1, if_neg (fun h => h3 h.2), if_pos h4])
              have hb3 : (x.toList == s5.toList) = true := by rw [h4]; simp
              clear h1 h3 h4 hen
              go_wp2_with fail
              go_ret
              rw [HF.out]
              exact ⟨rfl, HQ.out⟩
            · have HF := Lib.hid (show R = -1 by rw [hen, if_neg h1, if_neg (fun h => h3 h.2), if_neg h4])
              have hb3 := str_ne h4
              clear h1 h3 h4 hen
              go_wp2_with fail
              go_ret
              rw [HF.out]
              exact ⟨rfl, HQ.out⟩
        · by_cases h4 : x = s5
          · have HF := Lib.hid (show R = 12 by rw [hen, if_neg h1, if_neg (fun h => h2 h.1), if_pos h4])
            have hb3 : (x.toList == s5.toList) = true := by rw [h4]; simp
            clear h1 h4 hen
            go_wp2_with fail
            go_ret
            rw [HF.out]
            exact ⟨rfl, HQ.out⟩
          · have HF := Lib.hid (show R = -1 by rw [hen, if_neg h1, if_neg (fun h => h2 h.1), if_neg h4])
            have hb3 := str_ne h4
            clear h1 h4 hen
            go_wp2_with fail
            go_ret
            rw [HF.out]
            exact ⟨rfl, HQ.out⟩
end Ro
end Go.Proofs.YtnlfeamhedihpaaGreatDoor
