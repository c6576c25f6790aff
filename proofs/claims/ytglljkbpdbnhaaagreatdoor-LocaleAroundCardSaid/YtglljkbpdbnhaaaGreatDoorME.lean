/- What joins: pair, and the closure that is told characters one behind the other. The iterator over where a text's clusters begin. Where clusters begin, how many there are, how many bytes the first and the last one have: the four that range over the iterator. Split and One. Joined: which characters may still change what joins, and the closure told each of them. -/
import Derived.Test.YtglljkbpdbnhaaaGreatDoorRows
import Derived.Test.YtglljkbpdbnhaaaGreatDoorMA
import Derived.Test.YtglljkbpdbnhaaaGreatDoorMB
import Derived.Test.YtglljkbpdbnhaaaGreatDoorMD
import Derived.Deep.QuietTactic
import Derived.BigQuiet
import Derived.BigGuardPart
import Derived.Test.YtglljkbpdbnhaaaGreatDoorMC
import Derived.Shelf.RegionOpen
import Derived.OwnWalkIn
import Derived.TacticsInMore
import Derived.LoopNIn
import Derived.LoopIn
import Derived.WalkLawsBesides
set_option linter.unusedVariables false
set_option linter.unusedSimpArgs false
namespace Go.Proofs.YtglljkbpdbnhaaaGreatDoor
open Go.RowKit Um Cm Gm

set_option maxHeartbeats 400000 in
theorem alone_any (k : Int) (w : World) :
    Calls Tryz.prog 194 #[.int .i64 k] w fun e w' => e = .returned (.bool (alB k)) ∧ w = w' := by
  go_enter Tryz.func194, Tryz.ntmps194
  go_wp2_with fail
  all_goals go_ret
  all_goals exact ⟨retB (by simp_all [alB] <;> rfl), rfl⟩
set_option maxHeartbeats 400000 in
theorem syl_any (a k : Int) (w : World) :
    Calls Tryz.prog 195 #[.int .i64 a, .int .i64 k] w fun e w' => e = .returned (.bool (sylB a k)) ∧ w = w' := by
  go_enter Tryz.func195, Tryz.ntmps195
  go_wp2_with fail
  all_goals go_ret
  all_goals exact ⟨retB (by simp_all [sylB] <;> rfl), rfl⟩
set_option maxRecDepth 100000 in
set_option maxHeartbeats 400000 in
theorem pair_any (a k : Int) (w : World) :
    Calls Tryz.prog 178 #[.int .i64 a, .int .i64 k] w fun e w' => e = .returned (.bool (pairB a k)) ∧ w = w' := by
  go_enter Tryz.func178, Tryz.ntmps178
  go_wp2_with (first | (go_at_call 194; refine (alone_any _ _).mono ?_; rintro e w' ⟨rfl, rfl⟩) | (go_at_call 195; refine (syl_any _ _ _).mono ?_; rintro e w' ⟨rfl, rfl⟩))
  all_goals go_ret
  all_goals exact ⟨retB (by simp_all [pairB] <;> rfl), rfl⟩

/-- The closure's four variables, in blocks of their own, one behind the other. -/
def JS (w : World) (b : Nat) (t : St) : Prop :=
  Boxed w b 3 (.int .i64 t.k) ∧ Boxed w (b + 1) 4 (.bool t.d) ∧ Boxed w (b + 1 + 1) 4 (.bool t.s) ∧ Boxed w (b + 1 + 1 + 1) 4 (.bool t.o)
theorem JS.q {w w' : World} {b : Nat} {t : St} (h : JS w b t) (hq : Q w w') : JS w' b t := ⟨bx_q h.1 hq, bx_q h.2.1 hq, bx_q h.2.2.1 hq, bx_q h.2.2.2 hq⟩
theorem JS.gap {w w' : World} {b lo hi : Nat} {t : St} (h : JS w b t) (hg : Gap lo hi w w') (ho : b + 4 ≤ lo ∨ hi ≤ b) : JS w' b t :=
  ⟨bx_gap h.1 hg (by omega), bx_gap h.2.1 hg (by omega), bx_gap h.2.2.1 hg (by omega), bx_gap h.2.2.2 hg (by omega)⟩
theorem JS.lt {w : World} {b : Nat} {t : St} (h : JS w b t) : b + 4 ≤ w.heap.size := by have := h.2.2.2.lt; omega

set_option maxHeartbeats 400000 in
theorem joiner_any (w : World) :
    Calls Tryz.prog 164 #[] w fun e w' => e = .returned (.func (.func 177) #[] #[.pointer (some ⟨w.heap.size, 0, none⟩), .pointer (some ⟨w.heap.size + 1 + 1, 0, none⟩), .pointer (some ⟨w.heap.size + 1 + 1 + 1, 0, none⟩), .pointer (some ⟨w.heap.size + 1, 0, none⟩)])
      ∧ JS w' w.heap.size st0 ∧ Q w w' ∧ w'.heap.size = w.heap.size + 4 := by
  go_enter Tryz.func164, Tryz.ntmps164
  go_wp2_with fail
  go_ret
  refine ⟨rfl, ⟨?_, ?_, ?_, ?_⟩, (((Q.refl w).alloc _).alloc _ |>.alloc _).alloc _, by simp⟩
  · exact (((Boxed.new w _ _).alloc _).alloc _).alloc _
  · have := ((Boxed.new (w.alloc (.cells #[.int .i64 (-1)] 3)) 4 (.bool false)).alloc (.cells #[.bool false] 4)).alloc (.cells #[.bool false] 4)
    rw [World.size_alloc] at this
    exact this
  · have := (Boxed.new ((w.alloc (.cells #[.int .i64 (-1)] 3)).alloc (.cells #[.bool false] 4)) 4 (.bool false)).alloc (.cells #[.bool false] 4)
    rw [World.size_alloc, World.size_alloc] at this
    exact this
  · have := Boxed.new (((w.alloc (.cells #[.int .i64 (-1)] 3)).alloc (.cells #[.bool false] 4)).alloc (.cells #[.bool false] 4)) 4 (.bool false)
    rw [World.size_alloc, World.size_alloc, World.size_alloc] at this
    exact this

theorem JS.set4 {w : World} {b : Nat} {t t' : St} (h : JS w b t) {v0 : Int} {v1 v2 v3 : Bool} (e0 : v0 = t'.k) (e1 : v1 = t'.d) (e2 : v2 = t'.s) (e3 : v3 = t'.o) :
    JS ((((w.setCell ⟨b + 1 + 1, 0, none⟩ (.bool v2)).setCell ⟨b + 1, 0, none⟩ (.bool v1)).setCell ⟨b + 1 + 1 + 1, 0, none⟩ (.bool v3)).setCell ⟨b, 0, none⟩ (.int .i64 v0)) b t'
    ∧ Gap b (b + 4) w ((((w.setCell ⟨b + 1 + 1, 0, none⟩ (.bool v2)).setCell ⟨b + 1, 0, none⟩ (.bool v1)).setCell ⟨b + 1 + 1 + 1, 0, none⟩ (.bool v3)).setCell ⟨b, 0, none⟩ (.int .i64 v0)) := by
  subst e0 e1 e2 e3
  obtain ⟨h0, h1, h2, h3⟩ := h
  refine ⟨⟨?_, ?_, ?_, ?_⟩, ?_⟩
  · exact (bx_past (bx_past (bx_past h0 _ _ _ (by omega)) _ _ _ (by omega)) _ _ _ (by omega)).set _
  · exact bx_past (bx_past ((bx_past h1 _ _ _ (by omega)).set _) _ _ _ (by omega)) _ _ _ (by omega)
  · exact bx_past (bx_past (bx_past (h2.set _) _ _ _ (by omega)) _ _ _ (by omega)) _ _ _ (by omega)
  · exact bx_past ((bx_past (bx_past h3 _ _ _ (by omega)) _ _ _ (by omega)).set _) _ _ _ (by omega)
  · exact (((Gap.setCell _ _ _ _ _ _ (by omega) (by omega)).trans (Gap.setCell _ _ _ _ _ _ (by omega) (by omega))).trans (Gap.setCell _ _ _ _ _ _ (by omega) (by omega))).trans (Gap.setCell _ _ _ _ _ _ (by omega) (by omega))

theorem JS.put4 {w0 w : World} {b : Nat} {t : St} (h : JS w b t) (t' : St) {v0 : Int} {v1 v2 v3 : Bool} (e0 : v0 = t'.k) (e1 : v1 = t'.d) (e2 : v2 = t'.s) (e3 : v3 = t'.o) (hg : Gap b (b + 4) w0 w) :
    JS ((((w.setCell ⟨b + 1 + 1, 0, none⟩ (.bool v2)).setCell ⟨b + 1, 0, none⟩ (.bool v1)).setCell ⟨b + 1 + 1 + 1, 0, none⟩ (.bool v3)).setCell ⟨b, 0, none⟩ (.int .i64 v0)) b t'
    ∧ Gap b (b + 4) w0 ((((w.setCell ⟨b + 1 + 1, 0, none⟩ (.bool v2)).setCell ⟨b + 1, 0, none⟩ (.bool v1)).setCell ⟨b + 1 + 1 + 1, 0, none⟩ (.bool v3)).setCell ⟨b, 0, none⟩ (.int .i64 v0)) :=
  ⟨(JS.set4 h e0 e1 e2 e3).1, hg.trans (JS.set4 h e0 e1 e2 e3).2⟩

set_option maxRecDepth 100000 in
set_option maxHeartbeats 4000000 in
theorem joins_any (c : Int) (b : Nat) (t : St) (w : World) (h : JS w b t) :
    Calls Tryz.prog 177 #[.int .i64 c, .pointer (some ⟨b, 0, none⟩), .pointer (some ⟨b + 1 + 1, 0, none⟩), .pointer (some ⟨b + 1 + 1 + 1, 0, none⟩), .pointer (some ⟨b + 1, 0, none⟩)] w
      fun e w' => e = .returned (.bool (jn t (cls c))) ∧ JS w' b (stp t (cls c)) ∧ Gap b (b + 4) w w' := by
  obtain ⟨a, d, s, o⟩ := t
  obtain ⟨k, hk⟩ : ∃ k : Int, k = (cls c : Int) := ⟨_, rfl⟩
  have hof := fun w => of_any c w
  rw [← hk] at hof ⊢
  have HOF := Lib.hid hof
  clear hof hk
  go_enter Tryz.func177, Tryz.ntmps177
  go_wp2_with fail
  refine (HOF.out _).mono ?_
  rintro e w1 ⟨rfl, hq1⟩
  have hj := h.q hq1
  have hg := hq1.gap b (b + 4)
  obtain ⟨b0, b1, b2, b3⟩ := id hj
  have c0 := b0.cell; have c1 := b1.cell; have c2 := b2.cell; have c3 := b3.cell
  have f0 := b0.frozen; have f1 := b1.frozen; have f2 := b2.frozen; have f3 := b3.frozen
  simp only at c0 c1 c2 c3
  clear b0 b1 b2 b3 h
  cases hp : pairB a k <;> cases d <;> cases s <;> cases o
  all_goals
    have hpp := fun w => pair_any a k w
    rw [hp] at hpp
    have HPP := Lib.hid hpp
    have HP := Lib.hid hp
    clear hpp hp
    go_wp2_with (go_at_call 178; refine (HPP.out _).mono ?_; rintro e w' ⟨rfl, rfl⟩)
    all_goals
      go_ret
      have hp := HP.out
      refine ⟨retB ?_, JS.put4 hj _ ?_ ?_ ?_ ?_ hg⟩
      all_goals first | rfl | (simp_all [stp, jn] <;> rfl)

end Go.Proofs.YtglljkbpdbnhaaaGreatDoor

set_option linter.unusedVariables false
set_option linter.unusedSimpArgs false
namespace Go.Proofs.YtglljkbpdbnhaaaGreatDoor
open Go.RowKit Go.Shelf Um Cm Gm
attribute [local go_sem] Oper.semAt_some

/-- What a round must leave as it is: the text's box, the closure's variables. -/
def SetB (pb lo : Nat) (k : Nat) : Prop := k = pb ∨ (lo ≤ k ∧ k < lo + 4)
theorem JS.stand {w w' : World} {b pb : Nat} {t : St} (h : JS w b t) (hs : Stand (SetB pb b) w w') : JS w' b t :=
  ⟨hs.heap (.inr (by omega)) h.1, hs.heap (.inr (by omega)) h.2.1, hs.heap (.inr (by omega)) h.2.2.1, hs.heap (.inr (by omega)) h.2.2.2⟩

theorem begins_any (s : ByteArray) (w : World) :
    Calls Tryz.prog 146 #[.string s] w fun e w' => e = .returned (.func (.func 163) #[] #[.pointer (some ⟨w.heap.size, 0, none⟩)]) ∧ w' = w.alloc (.cells #[.string s] 9) := by
  go_enter Tryz.func146, Tryz.ntmps146
  go_wp2_with fail
  go_ret
  exact ⟨rfl, rfl⟩

theorem fst3_mrk {l : List UInt8} (h : l ≠ []) : fst3 l = ((mrk l).1, ((mrk l).2.1 : Int), (mrk l).2.2) := by unfold fst3; rw [if_neg h]

set_option maxRecDepth 100000 in
set_option maxHeartbeats 2000000 in
theorem begins_iter (s : ByteArray) (pb lo : Nat) (w0 : World) (hs : s.size ≤ maxLen) (hpb : Boxed w0 pb 9 (.string s)) (hlo : pb < lo) :
    Iter 163 #[.pointer (some ⟨pb, 0, none⟩)] (fun x : Int => #[Value.int .i64 x]) lo (lo + 4) (SetB pb lo) (fun pre => pre <+: begL s.data.toList) (fun xs => xs = begL s.data.toList) w0 := by
  intro l J Jx W hW hqW hJ hY h0
  have hbox := bx_q hpb hqW
  have hsl := size_list s
  obtain ⟨L, hL⟩ : ∃ L, L = s.data.toList := ⟨_, rfl⟩
  unfold maxLen at hs
  refine callsIn_of_wp Tryz.func163 rfl trivial ?_ rfl
  simp only [Tryz.ntmps163, List.size_toArray, List.length_cons, List.length_nil, Nat.reduceAdd, Nat.reduceSub, Array.replicate_succ, Array.replicate_zero, List.push_toArray, List.append_toArray, List.nil_append, List.cons_append]
  gi_wp2_with fail
  refine ⟨trivial, rfl, (callsIn_wide.2 (joiner_any W)).mono ?_⟩
  rintro e w1 ⟨rfl, hjs, hq1, hz1⟩
  rw [hW] at hjs hz1 ⊢
  have hbox1 := bx_q hbox hq1
  have h1 := hJ _ _ _ h0 (hq1.gap _ _)
  have HZ := Lib.hid hz1
  have HS := Lib.hid hsl
  have HW := Lib.hid hW
  have hz1 : lo + 4 ≤ w1.heap.size := by omega
  clear hsl hW h0 hqW hbox hpb
  gi_wp2_with fail
  gi_loopw [4] (fun v wr => ∃ (pos : Nat) (ms : List (Int × Nat × Bool)), v = .int .i64 pos ∧ marks L = ms ++ marks (L.drop pos) ∧ width ms = pos ∧ pos ≤ s.size ∧ JS wr lo (stMs ms) ∧ J (begF st0 0 ms) wr ∧ Boxed wr pb 9 (.string s) ∧ lo + 4 ≤ wr.heap.size) (fun v _ => s.size - (intOf v).toNat)
  case atStart => exact ⟨0, [], rfl, by simp, rfl, by omega, hjs, h1, hbox1, hz1⟩
  case round =>
    obtain ⟨pos, ms, rfl, hms, hwid, hpos, hjr, hJr, hbr, hzr⟩ := hrel
    have cb := hbr.cell
    have fb := hbr.frozen
    by_cases hlt : pos < s.size
    · have hne := drop_ne hlt
      have hx := extract_list s pos
      have hF := fun w => first_any (s.extract pos s.size) w (by rw [ByteArray.size_extract]; unfold maxLen; omega)
      rw [hx, fst3_mrk hne] at hF
      have hma := marks_at s pos hlt
      have hmn := mark_at_n s pos hlt
      have hcc := (vld_iff _).1 (dec_c _ hne)
      rw [show (((dec (s.data.toList.drop pos)).1 : Nat) : Int) = (mrk (s.data.toList.drop pos)).1 from rfl] at hcc
      generalize mrk (s.data.toList.drop pos) = X at *
      obtain ⟨c, n, ok⟩ := X
      simp only at hF hma hmn hcc
      rw [hL] at hms
      rw [hma] at hms
      have HF := Lib.hid hF
      have HM := Lib.hid hms
      have HWd := Lib.hid hwid
      clear hF hms hwid hma hx hne
      gi_wp2_with fail
      refine ⟨trivial, rfl, (callsIn_wide.2 (HF.out _)).mono ?_⟩
      rintro e w2 ⟨rfl, hq2⟩
      have hj2 := hjr.q hq2
      have hJ2 := hJ _ _ _ hJr (hq2.gap _ _)
      have hb2 := bx_q hbr hq2
      have hz2 := hq2.le
      have cb2 := hb2.cell
      have fb2 := hb2.frozen
      have hjc := fun w h => joins_any c lo (stMs ms) w h
      have hbs := begF_snoc ms (c, n, ok)
      have hsm := stMs_snoc ms (c, n, ok)
      have hws := width_snoc ms (c, n, ok)
      have hpre := begF_pre (ms ++ [(c, n, ok)]) (marks (s.data.toList.drop (pos + n)))
      rw [List.append_assoc, List.cons_append, List.nil_append, ← HM.out] at hpre
      simp only at hbs hsm hws
      obtain ⟨b, hb⟩ : ∃ b, b = jn (stMs ms) (cls c) := ⟨_, rfl⟩
      rw [← hb] at hbs hjc
      rw [HWd.out] at hbs hws
      have HJC := Lib.hid hjc
      have HBS := Lib.hid hbs
      have HSM := Lib.hid hsm
      have HWS := Lib.hid hws
      have HPR := Lib.hid hpre
      clear hjc hbs hsm hws hpre hb
      gi_wp2_with fail
      refine ⟨trivial, rfl, (callsIn_wide.2 (HJC.out _ hj2)).mono ?_⟩
      rintro e w3 ⟨rfl, hj3, hg3⟩
      rw [← HSM.out] at hj3
      have hJ3 := hJ _ _ _ hJ2 hg3
      have hb3 := bx_gap hb2 hg3 (.inl hlo)
      have hz3 : lo + 4 ≤ w3.heap.size := by have := hg3.size; omega
      cases b
      · obtain ⟨fn, tmps, assign, body, hy, hR⟩ := hY (begF st0 0 ms) pos w3 hJ3 hz3 (by
          have h := HPR.out
          rw [HBS.out] at h
          exact h)
        gi_wp2_with fail
        refine ⟨rfl, hR.mono ?_⟩
        rintro e w4 (⟨rfl, hJ4, hk4⟩ | ⟨rfl, hJx⟩)
        · have hj4 := hj3.stand hk4
          have hb4 : Boxed w4 pb 9 (.string s) := hk4.heap (.inl rfl) hb3
          have hz4 := hk4.size
          have hJ4' : J (begF st0 0 (ms ++ [(c, n, ok)])) w4 := by rw [HBS.out]; exact hJ4
          gi_wp2_with fail
          go_roundw
          case rel => exact ⟨pos + n, ms ++ [(c, n, ok)], by go_num, by rw [hL, HM.out, List.append_assoc]; rfl, HWS.out, hmn.2, hj4, hJ4', hb4, by omega⟩
          case measure => simp [intOf]; omega
        · gi_wp2_with fail
          refine bodyPost_ret (results_none rfl _ _ _) rfl ?_
          refine ⟨⟨_, rfl⟩, .inr ⟨_, ?_, hJx⟩⟩
          have h := HPR.out
          rw [HBS.out] at h
          exact h
      · have hJ3' : J (begF st0 0 (ms ++ [(c, n, ok)])) w3 := by rw [HBS.out, if_pos rfl, List.append_nil]; exact hJ3
        gi_wp2_with fail
        refine ⟨(fun _ h => nomatch h), ?_⟩
        gi_wp2_with fail
        go_roundw
        case rel => exact ⟨pos + n, ms ++ [(c, n, ok)], by go_num, by rw [hL, HM.out, List.append_assoc]; rfl, HWS.out, hmn.2, hj3, hJ3', hb3, hz3⟩
        case measure => simp [intOf]; omega
    · have hend : marks s.data.toList = ms := by
        rw [hL] at hms
        rw [marks_end s pos hlt, List.append_nil] at hms
        exact hms
      have HE := Lib.hid hend
      clear hend hms hwid
      gi_wp2_with fail
      go_end0
      exact ⟨⟨_, rfl⟩, .inl ⟨_, by unfold begL; rw [HE.out], hJr⟩⟩

end Go.Proofs.YtglljkbpdbnhaaaGreatDoor

set_option linter.unusedVariables false
set_option linter.unusedSimpArgs false
namespace Go.Proofs.YtglljkbpdbnhaaaGreatDoor
open Go.RowKit Go.Shelf Um Cm Gm
attribute [local go_sem] Oper.semAt_some

set_option maxRecDepth 100000 in
set_option maxHeartbeats 2000000 in
theorem cstarts_any (s : ByteArray) (w : World) (hs : s.size ≤ 1073741824) :
    Calls Tryz.prog 123 #[.string s] w fun e w' => ∃ v, e = .returned v ∧ Own w' w.heap.size v (begL s.data.toList ++ [(s.size : Int)]) ∧ Q w w' := by
  have hbl := begL_length s.data.toList
  rw [size_list] at hbl
  refine (callsIn_wide (n := 0)).1 ?_
  refine callsIn_of_wp_marks Tryz.func123 rfl trivial ?_ rfl
  simp only [Tryz.ntmps123, List.size_toArray, List.length_cons, List.length_nil, Nat.reduceAdd, Nat.reduceSub, Array.replicate_succ, Array.replicate_zero, List.push_toArray, List.append_toArray, List.nil_append, List.cons_append]
  gi_wp2_with fail
  refine ⟨trivial, rfl, (callsIn_wide.2 (begins_any s _)).mono ?_⟩
  rintro e w' ⟨rfl, rfl⟩
  gi_wp2_with fail
  have bL := (Boxed.new w 127 (.slice none 0 0)).alloc (.cells #[.string s] 9)
  have bS := Boxed.new (w.alloc (.cells #[.slice none 0 0] 127)) 9 (.string s)
  have hq0 : Q w ((w.alloc (.cells #[.slice none 0 0] 127)).alloc (.cells #[.string s] 9)) := ((Q.refl w).alloc _).alloc _
  have hz0 : ((w.alloc (.cells #[.slice none 0 0] 127)).alloc (.cells #[.string s] 9)).heap.size = w.heap.size + 2 := by simp
  rw [World.size_alloc] at bS
  generalize (w.alloc (.cells #[.slice none 0 0] 127)).alloc (.cells #[.string s] 9) = W0 at *
  have hz1 : W0.heap.size ≤ w.heap.size + 2 := by omega
  have hz2 : w.heap.size + 2 ≤ W0.heap.size := by omega
  clear hz0
  refine range_any (gf := 163) (lb := #[.pointer (some ⟨w.heap.size + 1, 0, none⟩)]) rfl (enters_of Tryz.func163 (by kernel_rfl) rfl) (fun _ => rfl)
    (begins_iter s (w.heap.size + 1) (W0.heap.size + 1 + 1) W0 (by unfold maxLen; omega) bS (by omega)) (by unfold SetB; omega) (by omega)
    (fun pre W => (∃ v, Boxed W w.heap.size 127 v ∧ Own W (W0.heap.size + 1 + 1 + 4) v pre) ∧ Q w W) (fun _ _ _ => False) ?hI (fun _ _ _ _ h _ => h) ⟨⟨_, bL, Own.nil _ _⟩, hq0⟩
    (fun x => { tmps := #[.string s, undef, .slice none 0 0, .pointer (some ⟨w.heap.size, 0, none⟩), .int .i64 x, .string s, .func (.func 163) #[] #[.pointer (some ⟨w.heap.size + 1, 0, none⟩)], .int .i64 x, undef, undef, undef, undef, undef, undef, undef, undef, undef], defers := [] }) ?assign ?body ?done ?stop
  case hI =>
    rintro pre A A' ⟨⟨v, hb, ho⟩, hq⟩ hg
    exact ⟨⟨v, bx_gap hb hg (.inl (by omega)), ho.gap hg (ho.base (Nat.le_refl _))⟩, hq.gapped hg (by omega)⟩
  case assign =>
    intro l x W K hK
    gi_wp2
    first | exact hK | simpa using hK
  case body =>
    rintro l pre x W ⟨⟨v, hb, ho⟩, hq⟩ hz hpre
    have hc := hb.cell
    have hf := hb.frozen
    have hpl : pre.length < 1073741825 := by
      have := hpre.length_le
      simp at this; omega
    gi_wp2_with (gi_at_builtin; refine push_in ho rfl _ _ rfl x (by rfl) (by rfl) (by omega) hz ?_; intro g' c' w1 ho1 hg1; have hb1 := hb.kept hg1 (box_not_own hb ho (by decide)); have hc1 := hb1.cell; have hf1 := hb1.frozen)
    have hlt : ∀ k, v.ownBlock = some k → W0.heap.size + 1 + 1 + 4 ≤ k := fun k hk => (ho.lt k hk).1
    refine ⟨(Stand.grown hg1 fun k hk => ?_).trans (Stand.setCell _ _ _ _ _ ?_), ⟨_, hb1.set _, ho1.gap (Gap.setCell _ _ _ _ w.heap.size (w.heap.size + 1) (by omega) (by omega)) (ho1.base (by omega))⟩, Below.setCell (p := ⟨w.heap.size, 0, none⟩) (hq.grown hg1 fun k hk => ?_) (Nat.le_refl _) _⟩
    · have := hlt k hk; unfold SetB; omega
    · unfold SetB; omega
    · have := hlt k hk; omega
  case done =>
    rintro xs W rfl ⟨⟨v, hb, ho⟩, hq⟩ hK
    have hc := hb.cell
    have hf := hb.frozen
    have hle := hq.le
    have ho := ho.mono (B' := w.heap.size) (by omega)
    gi_wp2_with (gi_at_builtin; refine push_in ho rfl _ _ rfl s.size (by rfl) (by rfl) (by omega) hle ?_; intro g' c' w1 ho1 hg1)
    have hK1 : w1.heap[W0.heap.size]? = some (.deferred (some [])) := by
      refine (hg1.block _ (Array.getElem?_eq_some_iff.1 hK).1 fun e => ?_).trans hK
      obtain ⟨cur, hcu⟩ := ho.cells _ e.symm
      rw [hK] at hcu; cases hcu
    refine ⟨by simp, .inl ⟨_, _, rfl, run_takeDeferred hK1, ?_⟩⟩
    refine ⟨_, results_tmp rfl _ _ _, _, rfl, ?_, ?_⟩
    · refine ho1.same fun g hg => World.putObj_heap_other fun e => ?_
      obtain ⟨cur, hcu⟩ := ho1.cells g hg
      rw [e, hK1] at hcu; cases hcu
    · exact (hq.grown hg1 fun k hk => (ho.lt k hk).1).gapped (Gap.putObj w1 _ _ W0.heap.size (W0.heap.size + 1) (by omega) (by omega)) (by omega)
  case stop =>
    rintro c pre W _ h _
    exact h.elim

set_option maxRecDepth 100000 in
set_option maxHeartbeats 2000000 in
theorem cfirst_any (s : ByteArray) (w : World) (hs : s.size ≤ 1073741824) :
    Calls Tryz.prog 142 #[.string s] w fun e w' => e = .returned (.int .i64 (frsL s.data.toList)) ∧ Q w w' := by
  refine (callsIn_wide (n := 0)).1 ?_
  refine callsIn_of_wp_marks Tryz.func142 rfl trivial ?_ rfl
  simp only [Tryz.ntmps142, List.size_toArray, List.length_cons, List.length_nil, Nat.reduceAdd, Nat.reduceSub, Array.replicate_succ, Array.replicate_zero, List.push_toArray, List.append_toArray, List.nil_append, List.cons_append]
  gi_wp2_with fail
  refine ⟨trivial, rfl, (callsIn_wide.2 (begins_any s _)).mono ?_⟩
  rintro e w' ⟨rfl, rfl⟩
  gi_wp2_with fail
  have bL := (Boxed.new w 3 (.int .i64 0)).alloc (.cells #[.string s] 9)
  have bS := Boxed.new (w.alloc (.cells #[.int .i64 0] 3)) 9 (.string s)
  have hq0 : Q w ((w.alloc (.cells #[.int .i64 0] 3)).alloc (.cells #[.string s] 9)) := ((Q.refl w).alloc _).alloc _
  have hz0 : ((w.alloc (.cells #[.int .i64 0] 3)).alloc (.cells #[.string s] 9)).heap.size = w.heap.size + 2 := by simp
  rw [World.size_alloc] at bS
  generalize (w.alloc (.cells #[.int .i64 0] 3)).alloc (.cells #[.string s] 9) = W0 at *
  have hz1 : W0.heap.size ≤ w.heap.size + 2 := by omega
  have hz2 : w.heap.size + 2 ≤ W0.heap.size := by omega
  clear hz0
  refine range_any (gf := 163) (lb := #[.pointer (some ⟨w.heap.size + 1, 0, none⟩)]) rfl (enters_of Tryz.func163 (by kernel_rfl) rfl) (fun _ => rfl)
    (begins_iter s (w.heap.size + 1) (W0.heap.size + 1 + 1) W0 (by unfold maxLen; omega) bS (by omega)) (by unfold SetB; omega) (by omega)
    (fun pre W => Boxed W w.heap.size 3 (.int .i64 0) ∧ Q w W ∧ ∀ x ∈ pre, ¬ 0 < x)
    (fun c pre W => c = .ret ∧ ∃ x r, pre = r ++ [x] ∧ 0 < x ∧ (∀ y ∈ r, ¬ 0 < y) ∧ Boxed W w.heap.size 3 (.int .i64 x) ∧ Q w W) ?hI ?hIx ⟨bL, hq0, by simp⟩
    (fun x => { tmps := #[.string s, undef, .pointer (some ⟨w.heap.size, 0, none⟩), .int .i64 x, .string s, .func (.func 163) #[] #[.pointer (some ⟨w.heap.size + 1, 0, none⟩)], .int .i64 x, undef, undef, undef, undef, undef], defers := [] }) ?assign ?body ?done ?stop
  case hI =>
    rintro pre A A' ⟨hb, hq, hx⟩ hg
    exact ⟨bx_gap hb hg (.inl (by omega)), hq.gapped hg (by omega), hx⟩
  case hIx =>
    rintro c pre A A' ⟨hc, x, r, h1, h2, h3, hb, hq⟩ hg
    exact ⟨hc, x, r, h1, h2, h3, bx_gap hb hg (.inl (by omega)), hq.gapped hg (by omega)⟩
  case assign =>
    intro l x W K hK
    gi_wp2
    first | exact hK | simpa using hK
  case body =>
    rintro l pre x W ⟨hb, hq, hx⟩ hz hpre
    have hc := hb.cell
    have hf := hb.frozen
    by_cases h0 : 0 < x
    · gi_wp2_with fail
      refine ⟨Stand.setCell _ _ _ _ _ (by unfold SetB; omega), rfl, x, pre, rfl, h0, hx, hb.set _, Below.setCell (p := ⟨w.heap.size, 0, none⟩) hq (Nat.le_refl _) _⟩
    · gi_wp2_with fail
      refine ⟨Stand.refl _ _, hb, hq, fun y hy => ?_⟩
      rcases List.mem_append.1 hy with h | h
      · exact hx y h
      · rw [List.mem_singleton.1 h]; exact h0
  case done =>
    rintro xs W rfl ⟨hb, hq, hx⟩ hK
    have hc := hb.cell
    have hf := hb.frozen
    have hle := hq.le
    have HF := Lib.hid (frsL_none _ hx)
    rw [size_list] at HF
    clear hx
    gi_wp2_with fail
    have hb2 := hb.set (.int .i64 s.size)
    have hK2 : (W.setCell ⟨w.heap.size, 0, none⟩ (.int .i64 s.size)).heap[W0.heap.size]? = some (.deferred (some [])) := (Below.heap_setCell _ _ _ _ (by show W0.heap.size ≠ w.heap.size; omega)).trans hK
    refine ⟨by simp, .inl ⟨_, _, rfl, run_takeDeferred hK2, ?_⟩⟩
    have hb3 := bx_gap hb2 (Gap.putObj _ W0.heap.size (.deferred none) W0.heap.size (W0.heap.size + 1) (by omega) (by omega)) (.inl (by omega))
    have hc3 := hb3.cell
    rw [HF.out]
    refine ⟨_, ?_, rfl, Q.gapped (a := w) (Below.setCell (p := ⟨w.heap.size, 0, none⟩) hq (Nat.le_refl _) _) (Gap.putObj _ _ _ W0.heap.size (W0.heap.size + 1) (by omega) (by omega)) (by omega)⟩
    simp [results, Tryz.results142, go_sem, hc3]
  case stop =>
    rintro c pre W hpre ⟨rfl, x, r, rfl, h1, h2, hb, hq⟩ hK
    have hle := hq.le
    have HF := Lib.hid (frsL_some _ _ _ hpre h1 h2)
    clear h2 hpre
    gi_wp2_with fail
    refine ⟨by simp, .inl ⟨_, _, rfl, run_takeDeferred hK, ?_⟩⟩
    have hb3 := bx_gap hb (Gap.putObj _ W0.heap.size (.deferred none) W0.heap.size (W0.heap.size + 1) (by omega) (by omega)) (.inl (by omega))
    have hc3 := hb3.cell
    rw [HF.out]
    refine ⟨_, ?_, rfl, hq.gapped (Gap.putObj _ _ _ W0.heap.size (W0.heap.size + 1) (by omega) (by omega)) (by omega)⟩
    simp [results, Tryz.results142, go_sem, hc3]

end Go.Proofs.YtglljkbpdbnhaaaGreatDoor

set_option linter.unusedVariables false
set_option linter.unusedSimpArgs false
namespace Go.Proofs.YtglljkbpdbnhaaaGreatDoor
open Go.RowKit Um Cm Gm

theorem Own.form1 {w : World} {B : Nat} {v : Value} {zs : List Int} (h : Own w B v zs) (hn : zs ≠ []) :
    ∃ g cap, v = .slice (some ⟨g, 0, none⟩) zs.length cap ∧ B ≤ g ∧ g < w.heap.size ∧ zs.length ≤ cap ∧ cap ≤ maxLen ∧ ∀ i, i < zs.length → w.cell? ⟨g, i, none⟩ = some (.int .i64 (zs.getD i 0)) := by
  rcases h.2 with ⟨hv, h0⟩ | ⟨g, cap, cur, hv, hB, hh, hnc, hcm, hcs, ht⟩
  · exact absurd (List.eq_nil_of_length_eq_zero h0) hn
  · refine ⟨g, cap, hv, hB, (Array.getElem?_eq_some_iff.1 hh).1, hnc, hcm, fun i hi => ?_⟩
    rw [cell_of_row w g i cur 3 (0, 0) hh]
    have h1 := congrArg (fun l => l[i]?) ht
    simp only [List.getElem?_map, Nat.mul_one] at h1
    rw [List.getElem?_take, if_pos hi] at h1
    rw [← Array.getElem?_toList, h1, List.getD_eq_getElem?_getD]
    rw [List.getElem?_eq_getElem hi]; rfl

theorem pcs_snoc (s : ByteArray) (st : List Int) (k : Nat) : (List.range (k + 1)).map (pc s st) = (List.range k).map (pc s st) ++ [pc s st k] := by
  rw [List.range_succ, List.map_append]; rfl

set_option maxRecDepth 100000 in
set_option maxHeartbeats 2000000 in
theorem csplit_any (s : ByteArray) (w : World) (hs : s.size ≤ 1073741824) :
    Calls Tryz.prog 87 #[.string s] w fun e w' => ∃ v, e = .returned v ∧ SOwn w' w.heap.size v (pcs s) ∧ Q w w' := by
  obtain ⟨i0, hi, hz0, hz1, hz2⟩ := info_parts elemS.info
  obtain ⟨n, hn⟩ : ∃ n, n = (begL s.data.toList).length := ⟨_, rfl⟩
  have hbl := begL_length s.data.toList
  rw [size_list, ← hn] at hbl
  have hl1 := stL1_length s.data.toList
  rw [← hn] at hl1
  have hpc : pcs s = (List.range n).map (pc s (stL1 s.data.toList)) := by unfold pcs; rw [hn]
  have hst := fun i (h : i < n) => stL1_step s.data.toList i (by rw [← hn]; exact h)
  have hgt := fun i (h : i < n + 1) => stL1_get s.data.toList i (by rw [hl1]; exact h)
  rw [size_list] at hgt
  have hcs := fun w => cstarts_any s w hs
  have e1 : begL s.data.toList ++ [(s.size : Int)] = stL1 s.data.toList := by unfold stL1; rw [size_list]
  rw [e1] at hcs
  rw [hpc]
  obtain ⟨S, hS⟩ : ∃ S, S = stL1 s.data.toList := ⟨_, rfl⟩
  rw [← hS] at hl1 hst hgt hcs ⊢
  have HL := Lib.hid hl1
  have HST := Lib.hid hst
  have HG := Lib.hid hgt
  have HC := Lib.hid hcs
  clear hl1 hst hgt hcs hS hpc hn e1
  go_enter Tryz.func87, Tryz.ntmps87
  go_wp2_with fail
  refine (HC.out _).mono ?_
  rintro e w1 ⟨v, rfl, hv, hq1⟩
  obtain ⟨g, cap, rfl, hgB, hgl, hcp, hcm, hcell⟩ := hv.form1 (by intro h; have := HL.out; rw [h] at this; simp at this)
  rw [HL.out] at hcp hcell ⊢
  unfold maxLen at hcm
  have hs1 := hq1.le
  have HCell := Lib.hid hcell
  clear hcell
  have hcast : (((n + 1 : Nat) : Int) - 1) = n := by omega
  by_cases h0 : n = 0
  · subst h0
    clear hcast
    by_cases hc1 : cap = 1
    · subst hc1
      go_wp2_with (at_make; refine wpList_make_own _ rfl _ _ 60 rfl w.heap.size 9 i0 (.string ByteArray.empty) 1 Tryz.underlying60 hi hz0 hz1 .i64 .i64 _ 0 rfl rfl rfl (by rw [hz2]; omega) (by unfold maxLen; omega) hs1 ?_; intro w2 hown2 hg2)
      refine wp_loop_rounds 1 ?_
      rw [rounds_succ]
      go_wp2_with fail
      go_ret
      exact ⟨_, rfl, hown2, hq1.grown hg2 (fun k h => by cases h)⟩
    · have hne : ¬ (1 = cap) := by omega
      go_wp2_with (at_make; refine wpList_make_own _ rfl _ _ 60 rfl w.heap.size 9 i0 (.string ByteArray.empty) 1 Tryz.underlying60 hi hz0 hz1 .i64 .i64 _ 0 rfl rfl rfl (by rw [hz2]; omega) (by unfold maxLen; omega) hs1 ?_; intro w2 hown2 hg2)
      refine wp_loop_rounds 1 ?_
      rw [rounds_succ]
      go_wp2_with fail
      go_ret
      exact ⟨_, rfl, hown2, hq1.grown hg2 (fun k h => by cases h)⟩
  · have hne : ¬ (1 = cap) := by omega
    have HNE := Lib.hid hne
    go_wp2_with (at_make; refine wpList_make_own _ rfl _ _ 60 rfl w1.heap.size 9 i0 (.string ByteArray.empty) 1 Tryz.underlying60 hi hz0 hz1 .i64 .i64 _ n rfl rfl rfl (by rw [hz2]; omega) (by unfold maxLen; omega) (Nat.le_refl _) ?_; intro w2 hown2 hg2)
    have hq2 : Q w1 w2 := (Q.refl w1).grown hg2 (fun k h => by cases h)
    have hown2 : SOwn w2 w1.heap.size (.slice (some ⟨w1.heap.size, 0, none⟩) 0 n) [] := hown2
    go_wp2_with fail
    go_loopw [4, 16] (fun v i wr => ∃ k : Nat, i = .int .i64 k ∧ k ≤ n ∧ SOwn wr w1.heap.size v ((List.range k).map (pc s S)) ∧ Q w1 wr) (fun _ i _ => n - (intOf i).toNat)
    case atStart => exact ⟨0, rfl, by omega, hown2, hq2⟩
    case round =>
      obtain ⟨k, rfl, hk, hown, hq⟩ := hrel
      have hqs := hq.le
      by_cases hlt : k < n
      · have hst := HST.out k hlt
        have hg1 := HG.out k (by omega)
        have hg2' := HG.out (k + 1) (by omega)
        have c2 := (World.cell?_of_block (w := w1) (a := ⟨g, k, none⟩) (hq.block hgl)).trans (HCell.out k (by omega))
        have c1 := (World.cell?_of_block (w := w1) (a := ⟨g, 1 + k, none⟩) (hq.block hgl)).trans (HCell.out (1 + k) (by omega))
        rw [Nat.add_comm 1 k] at c1
        obtain ⟨a, ha⟩ : ∃ a : Nat, (a : Int) = S.getD k 0 := ⟨(S.getD k 0).toNat, by omega⟩
        obtain ⟨b, hb⟩ : ∃ b : Nat, (b : Int) = S.getD (k + 1) 0 := ⟨(S.getD (k + 1) 0).toNat, by omega⟩
        rw [← ha, ← hb] at hst
        rw [← ha] at hg1 c2
        rw [← hb] at hg2' c1
        have hab : a ≤ b := by omega
        have hbs : b ≤ s.size := by omega
        have hpc : pc s S k = s.extract a b := by unfold pc; rw [← ha, ← hb]; rfl
        have HSN := Lib.hid (pcs_snoc s S k)
        have HPC := Lib.hid hpc
        have c1' : wr.cell? ⟨g, 1 + k, none⟩ = some (.int .i64 b) := by rw [Nat.add_comm 1 k]; exact c1
        clear hpc ha hb hst
        have hlen : ((List.range k).map (pc s S)).length < 1099511627776 := by rw [List.length_map, List.length_range]; omega
        go_wp2_with (at_builtin; refine gpush elemS hown rfl _ _ rfl (s.extract a b) rfl (by rfl) (by rfl) hlen hqs ?_; intro v' w4 hown4 hg4 hat4)
        go_roundw
        case rel => exact ⟨k + 1, by go_num, by omega, by rw [HSN.out, HPC.out]; exact hown4, hq.grown hg4 (fun j h => (hown.lt j h).1)⟩
        case measure => simp [intOf]; omega
      · have hke : k = n := by omega
        have HK := Lib.hid hke
        clear hke
        go_wp2_with fail
        go_ret
        exact ⟨_, rfl, by rw [← HK.out]; exact hown.mono hs1, hq1.trans hq⟩

theorem emp_eq (s : ByteArray) : s.toList.isEmpty = s.data.toList.isEmpty := by rw [ByteArray.toList_eq]

set_option maxRecDepth 100000 in
set_option maxHeartbeats 1000000 in
theorem cone_any (s : ByteArray) (w : World) (hs : s.size ≤ 1073741824) :
    Calls Tryz.prog 115 #[.string s] w fun e w' => e = .returned (.bool (oneB s.data.toList)) ∧ Q w w' := by
  have hcf := fun w => cfirst_any s w hs
  have hsl := size_list s
  by_cases h0 : s.data.toList = []
  · have hB : oneB s.data.toList = false := by rw [h0]; rfl
    have hb1 : s.toList.isEmpty = true := by rw [emp_eq, h0]; rfl
    have hb2 : (!s.toList.isEmpty) = false := by rw [hb1]; rfl
    have hb3 : s.toList = [] := by rw [ByteArray.toList_eq, h0]
    have HB := Lib.hid hB
    clear hB hcf hsl h0
    go_enter Tryz.func115, Tryz.ntmps115
    go_wp2_with fail
    go_ret
    rw [HB.out]
    exact ⟨rfl, Q.refl _⟩
  · have hB : oneB s.data.toList = (frsL s.data.toList == (s.size : Int)) := by
      unfold oneB
      rw [hsl]
      cases h : s.data.toList with
      | nil => exact absurd h h0
      | cons _ _ => rfl
    have hb1 : s.toList.isEmpty = false := by
      rw [emp_eq]
      cases h : s.data.toList with
      | nil => exact absurd h h0
      | cons _ _ => rfl
    have hb2 : (!s.toList.isEmpty) = true := by rw [hb1]; rfl
    obtain ⟨x, hx⟩ : ∃ x, x = frsL s.data.toList := ⟨_, rfl⟩
    rw [← hx] at hB hcf
    have HC := Lib.hid hcf
    have HB := Lib.hid hB
    clear hB hcf hx hsl h0
    go_enter Tryz.func115, Tryz.ntmps115
    go_wp2_with fail
    refine (HC.out _).mono ?_
    rintro e w1 ⟨rfl, hq1⟩
    go_wp2_with fail
    go_ret
    rw [HB.out]
    exact ⟨rfl, hq1⟩

end Go.Proofs.YtglljkbpdbnhaaaGreatDoor

set_option linter.unusedVariables false
set_option linter.unusedSimpArgs false
namespace Go.Proofs.YtglljkbpdbnhaaaGreatDoor
open Go.RowKit Um Cm Gm

/-- The place from which on a list's characters tell what joins. -/
def IsSince (xs : List Int) (i : Nat) : Prop := i ≤ xs.length ∧ (i = 0 ∨ (i < xs.length ∧ cls (xs.getD i 0) ≠ 4 ∧ cls (xs.getD i 0) ≠ 5 ∧ cls (xs.getD i 0) ≠ 6))
def SincePost (xs : List Int) (w : World) (e : Ending) (w' : World) : Prop := ∃ i : Nat, e = .returned (.int .i64 i) ∧ IsSince xs i ∧ Q w w'

/-- A list without its first k numbers. -/
theorem Lst.dropW {w : World} {g off n c : Nat} {zs : List Int} (h : Lst w (.slice (some ⟨g, off, none⟩) n c) zs) (k : Nat) (hk : k ≤ zs.length) : Lst w (.slice (some ⟨g, off + k, none⟩) (n - k) (c - k)) (zs.drop k) := by
  rcases h with ⟨rfl, a, c, hv, hc, hn⟩ | ⟨g, off, cap, hv, hg, h1, h2, hcell⟩
  · cases hv
    have : k = 0 := by simpa using hk
    subst this
    exact .nil _ _ _ (by omega) (fun h => by cases h)
  · cases hv
    have hl : (zs.drop k).length = zs.length - k := by simp
    refine .inr ⟨g, off + k, c - k, by rw [hl], hg, by omega, by omega, fun i hi => ?_⟩
    rw [hl] at hi
    rw [Nat.add_assoc, hcell (k + i) (by omega)]
    simp only [List.getD_eq_getElem?_getD, List.getElem?_drop]

theorem stL_take (l : List Int) (j : Nat) (h : j < l.length) : stL (l.take (j + 1)) = stp (stL (l.take j)) (cls (l.getD j 0)) := by
  rw [List.take_succ_eq_append_getElem h, stL_snoc, List.getD_eq_getElem?_getD, List.getElem?_eq_getElem h]; rfl
/-- What was told of the first, and of the closure's variables: they lie behind what was there. -/
theorem Q.joined {a w w' : World} {b : Nat} (h : Q a w) (hg : Gap b (b + 4) w w') (hb : a.heap.size ≤ b) : Q a w' :=
  Below.trans h ⟨hg.os, hg.tape, hg.output, hg.size, fun k hk => hg.block k (Nat.lt_of_lt_of_le hk h.size) (.inl (by omega))⟩

end Go.Proofs.YtglljkbpdbnhaaaGreatDoor
