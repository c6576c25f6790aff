/- The forty records in memory; a record made of its texts; the iterator over all. -/
import Derived.Test.YtglljkbpdbnhaaaRows
import Derived.Test.YtglljkbpdbnhaaaInts
import Derived.Test.YtglljkbpdbnhaaaGap
import Derived.Test.YtglljkbpdbnhaaaEls
import Derived.Test.YtglljkbpdbnhaaaBlk
import Derived.Test.YtglljkbpdbnhaaaRun
import Derived.Test.YtglljkbpdbnhaaaRng
import Derived.Test.YtglljkbpdbnhaaaFtM
import Derived.Deep.Cut
import Derived.OwnWalkIn
import Derived.TacticsInMore
import Derived.LoopNIn
import Derived.LoopIn
set_option linter.unusedVariables false
set_option linter.unusedSimpArgs false
namespace Go.Proofs.Ytglljkbpdbnhaaa
open Go.RowKit Go.Shelf
attribute [local go_sem] Oper.semAt_some
namespace Ft

/-- A record's texts, as cells and as a value. -/
@[reducible] def c8 (r : Lm.Rec) : List Value := [.string (Lm.bs r.nam), .string (Lm.bs r.pat), .string (Lm.bs r.sys), .string (Lm.bs r.dec), .string (Lm.bs r.grp), .string (Lm.bs r.min), .string (Lm.bs r.per), .string (Lm.bs r.cur)]
@[reducible] def rV (r : Lm.Rec) : Value := .agg #[.string (Lm.bs r.nam), .string (Lm.bs r.pat), .string (Lm.bs r.sys), .string (Lm.bs r.dec), .string (Lm.bs r.grp), .string (Lm.bs r.min), .string (Lm.bs r.per), .string (Lm.bs r.cur)]
def flat : List Value := Fm.tab.flatMap c8
theorem flat_at : ∀ (l : List Lm.Rec) (k : Nat) (r : Lm.Rec) (j : Nat), l[k]? = some r → j < 8 → (l.flatMap c8)[k * 8 + j]? = (c8 r)[j]? := by
  intro l
  induction l with
  | nil => intro k r j h; simp at h
  | cons x l ih =>
    intro k r j h hj
    rw [List.flatMap_cons]
    cases k with
    | zero =>
      simp at h
      subst h
      rw [List.getElem?_append_left (by simp; omega)]
      congr 1; omega
    | succ k =>
      rw [List.getElem?_cons_succ] at h
      rw [List.getElem?_append_right (by simp; omega)]
      have := ih k r j h hj
      rw [← this]
      congr 1
      simp; omega
theorem tab_at {k : Nat} (h : k < 40) : Fm.tab[k]? = some (Fm.T k) := by
  have hl : k < Fm.tab.length := by rw [Fm.tab_len]; exact h
  unfold Fm.T
  rw [List.getD_eq_getElem?_getD, List.getElem?_eq_getElem hl]; rfl
theorem row_cell {w : World} {b : Nat} {T : TypeId} (h : Bk w b T flat) {k : Nat} (hk : k < 40) (j : Nat) {v : Value} (hv : (c8 (Fm.T k))[j]? = some v) : w.cell? ⟨b, k * 8 + j, none⟩ = some v := by
  have hj : j < 8 := (List.getElem?_eq_some_iff.1 hv).1
  exact h.cell _ ((flat_at _ k _ j (tab_at hk) hj).trans hv)

set_option maxRecDepth 1000000 in
set_option maxHeartbeats 4000000 in
theorem rows_any (w : World) : Calls Try.prog 20 #[] w fun e w' => e = .returned (.slice (some ⟨w.heap.size, 0, none⟩) 40 40) ∧ w' = w.alloc (.cells flat.toArray 49) :=
  calls_runF Try.func20 (by rfl) (W := w.alloc (.cells flat.toArray 49)) (v := .slice (some ⟨w.heap.size, 0, none⟩) 40 40) (by kernel_rfl) ⟨rfl, rfl⟩
theorem infoLR : (Try.prog.info? 29).map (·.size) = some 8 := by kernel_rfl

set_option maxRecDepth 100000 in
set_option maxHeartbeats 4000000 in
theorem record_any (r : Lm.Rec) (w : World) :
    Calls Try.prog 21 #[.agg #[.string (Lm.bs r.nam), .string (Lm.bs r.pat), .string (Lm.bs r.sys), .string (Lm.bs r.dec), .string (Lm.bs r.grp), .string (Lm.bs r.min), .string (Lm.bs r.per), .string (Lm.bs r.cur)]] w fun e w' => e = .returned (rV r) ∧ Q w w' := by
  have HRV : Hid (rV r = .agg #[.string (Lm.bs r.nam), .string (Lm.bs r.pat), .string (Lm.bs r.sys), .string (Lm.bs r.dec), .string (Lm.bs r.grp), .string (Lm.bs r.min), .string (Lm.bs r.per), .string (Lm.bs r.cur)]) := Lib.hid rfl
  rw [HRV.out]
  generalize Lm.bs r.nam = s0 at *
  generalize Lm.bs r.pat = s1 at *
  generalize Lm.bs r.sys = s2 at *
  generalize Lm.bs r.dec = s3 at *
  generalize Lm.bs r.grp = s4 at *
  generalize Lm.bs r.min = s5 at *
  generalize Lm.bs r.per = s6 at *
  generalize Lm.bs r.cur = s7 at *
  clear HRV
  obtain ⟨y, hy⟩ : ∃ y, y = w.alloc (.cells #[.string s0, .string s1, .string s2, .string s3, .string s4, .string s5, .string s6, .string s7] 49) := ⟨_, rfl⟩
  have hQY : Q w y := by rw [hy]; exact (Q.refl w).alloc _
  have hby : Bk y w.heap.size 49 [.string s0, .string s1, .string s2, .string s3, .string s4, .string s5, .string s6, .string s7] := by rw [hy]; exact Bk.new _ _ _
  have hys : y.heap.size = w.heap.size + 1 := by rw [hy]; simp
  obtain ⟨z, hz⟩ : ∃ z, z = y.alloc (.cells #[.string ⟨#[]⟩, .string ⟨#[]⟩, .string ⟨#[]⟩, .string ⟨#[]⟩, .string ⟨#[]⟩, .string ⟨#[]⟩, .string ⟨#[]⟩, .string ⟨#[]⟩] 29) := ⟨_, rfl⟩
  have hQZ : Q w z := by rw [hz]; exact hQY.alloc _
  have hb : Bk z w.heap.size 49 [.string s0, .string s1, .string s2, .string s3, .string s4, .string s5, .string s6, .string s7] := by rw [hz]; exact hby.q ((Q.refl y).alloc _)
  have h2 : Bk z (w.heap.size + 1) 29 [.string ⟨#[]⟩, .string ⟨#[]⟩, .string ⟨#[]⟩, .string ⟨#[]⟩, .string ⟨#[]⟩, .string ⟨#[]⟩, .string ⟨#[]⟩, .string ⟨#[]⟩] := by rw [hz, ← hys]; exact Bk.new _ _ _
  have HQZ := Lib.hid hQZ
  go_enter Try.func21, Try.ntmps21
  go_upto_region 1 with fail
  first | rw [← hy, ← hz] | (rw [hy] at hz; rw [← hz])
  clear hQZ hQY hby hz hy hys
  obtain ⟨B, hB⟩ : ∃ B, B = w.heap.size + 1 := ⟨_, rfl⟩
  have HWB := Lib.hid (show w.heap.size ≤ B by omega)
  rw [← hB] at h2 ⊢
  have c0 := hb.cell 0 rfl
  have c1 := hb.cell 1 rfl
  have c2 := hb.cell 2 rfl
  have c3 := hb.cell 3 rfl
  have c4 := hb.cell 4 rfl
  have c5 := hb.cell 5 rfl
  have c6 := hb.cell 6 rfl
  have c7 := hb.cell 7 rfl
  have p0 := h2.cell 0 rfl
  have f0 := h2.free 0
  have p1 := h2.cell 1 rfl
  have f1 := h2.free 1
  have p2 := h2.cell 2 rfl
  have f2 := h2.free 2
  have p3 := h2.cell 3 rfl
  have f3 := h2.free 3
  have p4 := h2.cell 4 rfl
  have f4 := h2.free 4
  have p5 := h2.cell 5 rfl
  have f5 := h2.free 5
  have p6 := h2.cell 6 rfl
  have f6 := h2.free 6
  have p7 := h2.cell 7 rfl
  have f7 := h2.free 7
  have HFB := Lib.hid ((((((((h2.set 0 (.string s0)).set 1 (.string s1)).set 2 (.string s2)).set 3 (.string s3)).set 4 (.string s4)).set 5 (.string s5)).set 6 (.string s6)).set 7 (.string s7))
  have HFQ := Lib.hid (Q.setCell (Q.setCell (Q.setCell (Q.setCell (Q.setCell (Q.setCell (Q.setCell (Q.setCell HQZ.out (ad := ⟨B, 0, none⟩) HWB.out (.string s0)) (ad := ⟨B, 1, none⟩) HWB.out (.string s1)) (ad := ⟨B, 2, none⟩) HWB.out (.string s2)) (ad := ⟨B, 3, none⟩) HWB.out (.string s3)) (ad := ⟨B, 4, none⟩) HWB.out (.string s4)) (ad := ⟨B, 5, none⟩) HWB.out (.string s5)) (ad := ⟨B, 6, none⟩) HWB.out (.string s6)) (ad := ⟨B, 7, none⟩) HWB.out (.string s7))
  clear h2 hb hB
  go_wp2_with fail
  refine ret_bk rfl Try.underlying29 (by exact infoLR) rfl HFB.out rfl ⟨?_, HFQ.out⟩
  rfl

theorem all_any (w : World) : Calls Try.prog 15 #[] w fun e w' => e = .returned (.func (.func 19) #[] #[]) ∧ w' = w := by
  go_enter Try.func15, Try.ntmps15
  go_wp2_with fail
  go_ret
  exact ⟨rfl, rfl⟩
/-- What a round must leave as it is: the rows. -/
def SetR (lo : Nat) (k : Nat) : Prop := k = lo
theorem range_add (k : Nat) : List.range k ++ [k] = List.range (k + 1) := List.range_succ.symm

set_option maxRecDepth 100000 in
set_option maxHeartbeats 4000000 in
theorem all_iter (lo : Nat) (w0 : World) :
    Iter 19 #[] (fun i : Nat => #[.string (Lm.bs (Fm.T i).nam), rV (Fm.T i)]) lo (lo + 1) (SetR lo) (fun pre => ∃ k, k ≤ 40 ∧ pre = List.range k) (fun xs => xs = List.range 40) w0 := by
  intro l J Jx W hW hqW hJ hY h0
  refine callsIn_of_wp Try.func19 rfl trivial ?_ rfl
  simp only [Try.ntmps19, List.size_toArray, List.length_cons, List.length_nil, Nat.reduceAdd, Nat.reduceSub, Array.replicate_succ, Array.replicate_zero, List.push_toArray, List.append_toArray, List.nil_append, List.cons_append]
  gi_wp2_with fail
  refine ⟨trivial, rfl, (callsIn_wide.2 (rows_any W)).mono ?_⟩
  rintro e w1 ⟨rfl, rfl⟩
  have hB := Bk.new W 49 flat
  have h1 := hJ _ _ _ h0 (((Q.refl W).alloc (.cells flat.toArray 49)).gap _ _)
  have hz1 : (W.alloc (.cells flat.toArray 49)).heap.size = W.heap.size + 1 := by simp
  generalize W.alloc (.cells flat.toArray 49) = w1 at *
  rw [hW] at hB hz1 ⊢
  have hz1 : lo + 1 ≤ w1.heap.size := by omega
  clear hW h0 hqW
  gi_wp2_with fail
  gi_loopw [7] (fun v wr => ∃ k : Nat, v = .int .i64 k ∧ k ≤ 40 ∧ Bk wr lo 49 flat ∧ J (List.range k) wr ∧ lo + 1 ≤ wr.heap.size) (fun v _ => 40 - (intOf v).toNat)
  case atStart => exact ⟨0, rfl, by omega, hB, h1, hz1⟩
  case round =>
    obtain ⟨k, rfl, hk, hB, hJr, hzr⟩ := hrel
    by_cases hk40 : k < 40
    · have hki : (k : Int) < 40 := by omega
      have c0 : wr.cell? ⟨lo, k * 8, none⟩ = _ := row_cell hB hk40 0 rfl
      have c1 := row_cell hB hk40 1 rfl
      have c2 := row_cell hB hk40 2 rfl
      have c3 := row_cell hB hk40 3 rfl
      have c4 := row_cell hB hk40 4 rfl
      have c5 := row_cell hB hk40 5 rfl
      have c6 := row_cell hB hk40 6 rfl
      have c7 := row_cell hB hk40 7 rfl
      have HT : Hid (rV (Fm.T k) = .agg #[.string (Lm.bs (Fm.T k).nam), .string (Lm.bs (Fm.T k).pat), .string (Lm.bs (Fm.T k).sys), .string (Lm.bs (Fm.T k).dec), .string (Lm.bs (Fm.T k).grp), .string (Lm.bs (Fm.T k).min), .string (Lm.bs (Fm.T k).per), .string (Lm.bs (Fm.T k).cur)]) := Lib.hid rfl
      have HRC := Lib.hid (fun u => record_any (Fm.T k) u)
      obtain ⟨s0, hs0⟩ : ∃ s, s = Lm.bs (Fm.T k).nam := ⟨_, rfl⟩
      obtain ⟨s1, hs1⟩ : ∃ s, s = Lm.bs (Fm.T k).pat := ⟨_, rfl⟩
      obtain ⟨s2, hs2⟩ : ∃ s, s = Lm.bs (Fm.T k).sys := ⟨_, rfl⟩
      obtain ⟨s3, hs3⟩ : ∃ s, s = Lm.bs (Fm.T k).dec := ⟨_, rfl⟩
      obtain ⟨s4, hs4⟩ : ∃ s, s = Lm.bs (Fm.T k).grp := ⟨_, rfl⟩
      obtain ⟨s5, hs5⟩ : ∃ s, s = Lm.bs (Fm.T k).min := ⟨_, rfl⟩
      obtain ⟨s6, hs6⟩ : ∃ s, s = Lm.bs (Fm.T k).per := ⟨_, rfl⟩
      obtain ⟨s7, hs7⟩ : ∃ s, s = Lm.bs (Fm.T k).cur := ⟨_, rfl⟩
      rw [← hs0, ← hs1, ← hs2, ← hs3, ← hs4, ← hs5, ← hs6, ← hs7] at HT
      simp only [HT.out, ← hs0, ← hs1, ← hs2, ← hs3, ← hs4, ← hs5, ← hs6, ← hs7] at HRC
      rw [← hs0] at c0
      rw [← hs1] at c1
      rw [← hs2] at c2
      rw [← hs3] at c3
      rw [← hs4] at c4
      rw [← hs5] at c5
      rw [← hs6] at c6
      rw [← hs7] at c7
      have HN : Hid (Lm.bs (Fm.T k).nam = s0) := Lib.hid hs0.symm
      clear hs0 hs1 hs2 hs3 hs4 hs5 hs6 hs7
      obtain ⟨w2, hw2⟩ : ∃ x, x = wr.alloc (.cells #[.string s0, .string s1, .string s2, .string s3, .string s4, .string s5, .string s6, .string s7] 49) := ⟨_, rfl⟩
      have HQ2 := Lib.hid (show Q wr w2 by rw [hw2]; exact (Q.refl wr).alloc _)
      have hb2 : Bk w2 wr.heap.size 49 [.string s0, .string s1, .string s2, .string s3, .string s4, .string s5, .string s6, .string s7] := by rw [hw2]; exact Bk.new _ _ _
      obtain ⟨b2, hb2e⟩ : ∃ b, b = wr.heap.size := ⟨_, rfl⟩
      rw [← hb2e] at hb2
      have hzb : lo + 1 ≤ b2 := by omega
      gi_wp2_with fail
      try rw [← hw2]
      refine ⟨trivial, rfl, (callsIn_wide.2 (HRC.out _)).mono ?_⟩
      rintro e w3 ⟨rfl, hq3⟩
      have HQ4 := Lib.hid (show Q wr (w3.alloc (.cells #[.string s0, .string s1, .string s2, .string s3, .string s4, .string s5, .string s6, .string s7] 29)) from (HQ2.out.trans hq3).alloc _)
      have hb4 : Bk (w3.alloc (.cells #[.string s0, .string s1, .string s2, .string s3, .string s4, .string s5, .string s6, .string s7] 29)) w3.heap.size 29 [.string s0, .string s1, .string s2, .string s3, .string s4, .string s5, .string s6, .string s7] := Bk.new _ _ _
      have hB4 := Lib.hid (hB.q HQ4.out)
      have hz4 : lo + 1 ≤ (w3.alloc (.cells #[.string s0, .string s1, .string s2, .string s3, .string s4, .string s5, .string s6, .string s7] 29)).heap.size := Nat.le_trans hzr HQ4.out.size
      have hYk := hY (List.range k) k _ (hJ _ _ _ hJr (HQ4.out.gap _ _)) hz4 ⟨k + 1, by omega, range_add k⟩
      rw [HT.out, HN.out, range_add] at hYk
      obtain ⟨fn, tmps, assign, body, hy, hR⟩ := hYk
      have hz5 := Lib.hid hz4
      clear hq3 hb2 hzb hb2e hw2 hz4 c0 c1 c2 c3 c4 c5 c6 c7 hB
      have m0 := hb4.cell 0 rfl
      have m1 := hb4.cell 1 rfl
      have m2 := hb4.cell 2 rfl
      have m3 := hb4.cell 3 rfl
      have m4 := hb4.cell 4 rfl
      have m5 := hb4.cell 5 rfl
      have m6 := hb4.cell 6 rfl
      have m7 := hb4.cell 7 rfl
      clear hb4
      gi_wp2_with fail
      refine ⟨rfl, hR.mono ?_⟩
      rintro e w5 (⟨rfl, hJ5, hk5⟩ | ⟨rfl, hJx⟩)
      · have hB5 : Bk w5 lo 49 flat := hk5.heap rfl hB4.out
        have hz6 : lo + 1 ≤ w5.heap.size := Nat.le_trans hz5.out hk5.size
        clear m0 m1 m2 m3 m4 m5 m6 m7
        gi_wp2_with fail
        go_roundw
        case rel => exact ⟨k + 1, by go_num, by omega, hB5, hJ5, hz6⟩
        case measure => simp [intOf]; omega
      · gi_wp2_with fail
        refine bodyPost_ret (results_none rfl _ _ _) rfl ?_
        exact ⟨⟨_, rfl⟩, .inr ⟨_, ⟨k + 1, by omega, rfl⟩, hJx⟩⟩
    · have hk4 : k = 40 := by omega
      subst hk4
      gi_wp2_with fail
      go_end0
      exact ⟨⟨_, rfl⟩, .inl ⟨_, rfl, hJr⟩⟩

end Ft
end Go.Proofs.Ytglljkbpdbnhaaa
