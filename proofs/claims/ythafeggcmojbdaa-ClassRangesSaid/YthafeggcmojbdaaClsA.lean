/- The table's rows as class.Ranges makes them: a closure that appends one pair a call. -/
import Derived.Test.YthafeggcmojbdaaRows
import Derived.Test.YthafeggcmojbdaaClsM
import Derived.Test.YthafeggcmojbdaaInts
import Derived.Test.YthafeggcmojbdaaPairs
import Derived.Deep.QuietTactic
import Derived.Deep.CutRange
import Derived.Deep.CutBlock
import Derived.Deep.DeepCutAuto
import Derived.BigQuiet
import Derived.OneCell
set_option linter.unusedVariables false
set_option linter.unusedSimpArgs false
namespace Go.Proofs.Ythafeggcmojbdaa
open Go.RowKit Cm

/-- A list of pairs of the call's own, from block B on. -/
def OwnP (w : World) (B : Nat) (v : Value) (l : List (Int × Int)) : Prop := w.ownsRow B 32 2 v l.length (flat2 l)
theorem flat2_len (l : List (Int × Int)) : (flat2 l).length = l.length * 2 := by
  induction l with
  | nil => rfl
  | cons r l ih =>
    have e : flat2 (r :: l) = .int .i64 r.1 :: .int .i64 r.2 :: flat2 l := by simp [flat2]
    rw [e]; simp [ih]; omega
theorem flat2_app (a b : List (Int × Int)) : flat2 (a ++ b) = flat2 a ++ flat2 b := by simp [flat2]
theorem OwnP.nil (w : World) (B : Nat) : OwnP w B (.slice none 0 0) [] := World.ownsRow_nil w B 32 2
theorem OwnP.same {w w' : World} {B : Nat} {v : Value} {l : List (Int × Int)} (h : OwnP w B v l) (hs : ∀ g, v.ownBlock = some g → w'.heap[g]? = w.heap[g]?) : OwnP w' B v l := by
  obtain ⟨h1, h2⟩ := h
  refine ⟨h1, ?_⟩
  rcases h2 with h2 | ⟨g, cap, cur, hv, hg, hh, r⟩
  · exact .inl h2
  · exact .inr ⟨g, cap, cur, hv, hg, by rw [hs g (by rw [hv]; rfl)]; exact hh, r⟩
theorem OwnP.lt {w : World} {B : Nat} {v : Value} {l : List (Int × Int)} (h : OwnP w B v l) : ∀ g, v.ownBlock = some g → B ≤ g ∧ g < w.heap.size := World.ownsRow.lt h
theorem OwnP.alloc {w : World} {B : Nat} {v : Value} {l : List (Int × Int)} (h : OwnP w B v l) (o : Obj) : OwnP (w.alloc o) B v l := World.ownsRow.alloc h o
theorem OwnP.q {w w' : World} {B : Nat} {v : Value} {l : List (Int × Int)} (h : OwnP w B v l) (hq : Q w w') : OwnP w' B v l := h.same fun g hg => hq.block (h.lt g hg).2
theorem OwnP.pairs {w : World} {B : Nat} {v : Value} {l : List (Int × Int)} (h : OwnP w B v l) :
    ∃ a c, v = .slice a l.length c ∧ l.length ≤ c ∧ c ≤ maxLen ∧ ∀ i, i < l.length → ∃ g, a = some ⟨g, 0, none⟩ ∧ g < w.heap.size ∧ w.cell? ⟨g, i * 2, none⟩ = some (.int .i64 (l.getD i (0, 0)).1) ∧ w.cell? ⟨g, i * 2 + 1, none⟩ = some (.int .i64 (l.getD i (0, 0)).2) := by
  rcases h.2 with ⟨hv, hn⟩ | ⟨g, cap, cur, hv, _, hh, hnc, hcm, hcs, ht⟩
  · have : l = [] := List.eq_nil_of_length_eq_zero hn
    subst this; subst hv
    exact ⟨none, 0, rfl, by simp, by unfold maxLen; omega, fun i hi => by simp at hi⟩
  · refine ⟨_, cap, hv, hnc, hcm, fun i hi => ⟨g, rfl, (Array.getElem?_eq_some_iff.1 hh).1, ?_, ?_⟩⟩
    · rw [cell_of_row w g (i * 2) cur 32 (0, 0) hh]
      have h1 := congrArg (fun x => x[i * 2]?) ht
      rw [List.getElem?_take, if_pos (by omega), (flat2_get l i hi).1] at h1
      rw [← Array.getElem?_toList, h1]
    · rw [cell_of_row w g (i * 2 + 1) cur 32 (0, 0) hh]
      have h1 := congrArg (fun x => x[i * 2 + 1]?) ht
      rw [List.getElem?_take, if_pos (by omega), (flat2_get l i hi).2] at h1
      rw [← Array.getElem?_toList, h1]

theorem infoPair : (Try.prog.info? 32).map (fun i => (i.zero, i.size, i.bytes)) = some (some (.agg #[.int .i64 0, .int .i64 0]), 2, 16) := by kernel_rfl

/-- One pair more behind a list of the call's own. -/
theorem push_pair {w : World} {B : Nat} {v : Value} {l : List (Int × Int)} (hown : OwnP w B v l) {ops : Array Oper} {rest : List Oper} {o : Oper} {a : Act} {R : Exit → Act → World → Prop} (hgd : o.guard = none) (s x : Operand)
    (ho : o.op = .call { callee := .builtin .append, args := #[s, x], argTypes := #[27, 27] })
    (p q : Int) (hs : a.eval s = v) (hx : a.eval x = .slice (some ⟨w.heap.size, 0, none⟩) 1 1) (hlen : l.length < 1073741824) (hB : B ≤ w.heap.size)
    (h : ∀ v' w', OwnP w' B v' (l ++ [(p, q)]) → w.grownBy w' v.ownBlock → (v'.ownBlock = v.ownBlock ∨ v'.ownBlock = some (w.heap.size + 1)) → wpList Try.prog ops R rest (a.put o.dst v') w') :
    wpList Try.prog ops R (o :: rest) a (w.alloc (.cells #[.int .i64 p, .int .i64 q] 32)) := by
  obtain ⟨i0, hi, hz0, hz1, hz2⟩ := info_parts infoPair
  refine wpList_append_own_at _ hgd s x 27 ho B 32 i0 (.agg #[.int .i64 0, .int .i64 0]) 2 16 Try.underlying27 hi hz0 hz1 hz2 rfl (by decide) v l.length _ hs (World.ownsRow.alloc hown _)
    ⟨w.heap.size, 0, none⟩ 1 1 [.int .i64 p, .int .i64 q] hx rfl ?_ ?_ ?_ ?_ ?_ ?_
  · intro j u hj
    match j, hj with
    | 0, hj => simp at hj; subst hj; show World.cell? _ ⟨w.heap.size, 0 + 0, none⟩ = _; rw [World.cell?_alloc_at _ _ _ _ rfl]; rfl
    | 1, hj => simp at hj; subst hj; show World.cell? _ ⟨w.heap.size, 0 + 1, none⟩ = _; rw [World.cell?_alloc_at _ _ _ _ rfl]; rfl
  · intro u hu; simp at hu; rcases hu with rfl | rfl <;> rfl
  · unfold maxLen; omega
  · omega
  · simp; omega
  · intro v' w' hown' hg _ hat
    refine h v' w' ?_ ?_ ?_
    · unfold OwnP
      rw [List.length_append, flat2_app]
      exact hown'
    · exact (World.grownBy_alloc w _ _).trans hg
    · simpa using hat

theorem alloc_block (w : World) (o : Obj) {k : Nat} (h : k < w.heap.size) : (w.alloc o).heap[k]? = w.heap[k]? := ((Q.refl w).alloc o).block h

set_option maxHeartbeats 800000 in
theorem app_any (r1 r2 : Int) (pb B : Nat) (v : Value) (l : List (Int × Int)) (w : World) (hb : w.heap[pb]? = some (.cells #[v] 27 (0, 0))) (hown : OwnP w B v l) (hpB : pb < B) (hB : B ≤ w.heap.size) (hlen : l.length < 1073741824) :
    Calls Try.prog 28 #[.int .i64 r1, .int .i64 r2, .pointer (some ⟨pb, 0, none⟩)] w fun e w' => e = .returned (.bool false) ∧ ∃ v', w'.heap[pb]? = some (.cells #[v'] 27 (0, 0)) ∧ OwnP w' B v' (l ++ [(r1, r2)]) ∧ Below pb w w' ∧
      ∀ k, k < w.heap.size → k ≠ pb → v.ownBlock ≠ some k → w'.heap[k]? = w.heap[k]? ∧ v'.ownBlock ≠ some k := by
  have hc := cell_of_one hb
  have hpw := lt_of_block hb
  have HB := Lib.hid hb
  clear hb
  go_enter Try.func28, Try.ntmps28
  go_wp2_with (at_builtin; refine push_pair hown rfl _ _ rfl _ _ (by rfl) (by rfl) hlen hB ?_)
  intro v' w' hown' hg hat
  obtain ⟨va, vc, hv', _, _, _⟩ := hown'.pairs
  rw [show (l ++ [(r1, r2)]).length = l.length + 1 from by simp] at hv'
  subst hv'
  have hne : v.ownBlock ≠ some pb := by
    intro h
    have := (hown.lt _ h).1
    omega
  have hb' : w'.heap[pb]? = some (.cells #[v] 27 (0, 0)) := (hg.block pb hpw (fun h => hne h.symm)).trans HB.out
  have hc' := cell_of_one hb'
  have hf' := free_of_one hb'
  have HB' := Lib.hid hb'
  clear hb'
  go_wp2_with fail
  go_ret
  have hsz : w.heap.size ≤ w'.heap.size := hg.size
  have hb1 : Below pb w w' := (Below.refl _ _).grown hg (by omega) (fun k hk => by have := (hown.lt k hk).1; omega)
  have hown2 : OwnP (w'.setCell ⟨pb, 0, none⟩ (.slice va (l.length + 1) vc)) B (.slice va (l.length + 1) vc) (l ++ [(r1, r2)]) := ownsRow_setCell_other hown' (by
    intro h
    have := (hown'.lt _ h).1
    simp only at this
    omega) _
  refine ⟨rfl, _, one_setCell HB'.out, hown2, Below.setCell hb1 (Nat.le_refl _) _, fun k hk hkp hko => ⟨?_, ?_⟩⟩
  · rw [Below.heap_setCell _ _ _ _ hkp]
    exact hg.block k hk (fun h => hko h.symm)
  · intro h
    rcases hat with e | e
    · rw [e] at h; exact hko h
    · rw [e] at h; cases h; omega

/-- What holds at each round: the captured list, what the call has made, the table's row. -/
def RS (pb B : Nat) (a : Option Addr) (wc : World) (l : List (Int × Int)) (v : Value) (wr : World) : Prop :=
  wr.heap[pb]? = some (.cells #[v] 27 (0, 0)) ∧ OwnP wr B v l ∧ Below pb wc wr ∧ (∀ g, a = some ⟨g, 0, none⟩ → wr.heap[g]? = wc.heap[g]? ∧ v.ownBlock ≠ some g)

set_option maxRecDepth 100000 in
set_option maxHeartbeats 1000000 in
theorem each_app (k : Int) (pb : Nat) (w : World) (hb : w.heap[pb]? = some (.cells #[.slice none 0 0] 27 (0, 0))) :
    Calls Try.prog 27 #[.int .i64 k, .func (.func 28) #[] #[.pointer (some ⟨pb, 0, none⟩)]] w fun e w' => e = .returned (.bool false) ∧
      ∃ v, w'.heap[pb]? = some (.cells #[v] 27 (0, 0)) ∧ OwnP w' (pb + 1) v (rowZ k) ∧ Below pb w w' := by
  have hpw := lt_of_block hb
  have HB := Lib.hid hb
  clear hb
  go_enter Try.func27, Try.ntmps27
  go_upto_block 0 with fail
  go_cut [5] (fun s wx => PRow wx s (rowZ k) ∧ Q w wx)
  case first =>
    by_cases h : ¬ (1 ≤ k ∧ k ≤ 11) ∧ ¬ k = 14
    · have h1 : (k == 1) = false := by rw [beq_eq_false_iff_ne]; omega
      have h2 : (k == 2) = false := by rw [beq_eq_false_iff_ne]; omega
      have h3 : (k == 3) = false := by rw [beq_eq_false_iff_ne]; omega
      have h4 : (k == 4) = false := by rw [beq_eq_false_iff_ne]; omega
      have h5 : (k == 5) = false := by rw [beq_eq_false_iff_ne]; omega
      have h6 : (k == 6) = false := by rw [beq_eq_false_iff_ne]; omega
      have h7 : (k == 7) = false := by rw [beq_eq_false_iff_ne]; omega
      have h8 : (k == 8) = false := by rw [beq_eq_false_iff_ne]; omega
      have h9 : (k == 9) = false := by rw [beq_eq_false_iff_ne]; omega
      have h10 : (k == 10) = false := by rw [beq_eq_false_iff_ne]; omega
      have h11 : (k == 11) = false := by rw [beq_eq_false_iff_ne]; omega
      have h14 : (k == 14) = false := by rw [beq_eq_false_iff_ne]; omega
      go_wp2_with fail
      go_meet
      case rel => exact ⟨by rw [rowZ_none h]; exact PRow.nil _, Q.refl _⟩
    · have : k = 1 ∨ k = 2 ∨ k = 3 ∨ k = 4 ∨ k = 5 ∨ k = 6 ∨ k = 7 ∨ k = 8 ∨ k = 9 ∨ k = 10 ∨ k = 11 ∨ k = 14 := by omega
      clear h
      rcases this with rfl | rfl | rfl | rfl | rfl | rfl | rfl | rfl | rfl | rfl | rfl | rfl
      all_goals
        go_wp2_with fail
        go_meet
        case rel => exact ⟨PRow.made w (rowZ _) _ (by kernel_rfl) _ _ (by kernel_rfl), (Q.refl _).alloc _⟩
  case rest =>
    obtain ⟨⟨a, rfl, hcell⟩, hq0⟩ := hcut
    have hl18 := rowZ_len k
    generalize hL : (rowZ k).length = n at *
    have HL := Lib.hid hL
    have hbc : wc.heap[pb]? = some (.cells #[.slice none 0 0] 27 (0, 0)) := (hq0.block hpw).trans HB.out
    have hpc : pb < wc.heap.size := lt_of_block hbc
    have hst : RS pb (pb + 1) a wc [] (.slice none 0 0) wc := ⟨hbc, OwnP.nil _ _, Below.refl _ _, fun g _ => ⟨rfl, fun h => by cases h⟩⟩
    have HST := Lib.hid hst
    have HBC := Lib.hid hbc
    have HC := Lib.hid hcell
    clear hL hcell hst hbc
    go_wp2_with fail
    go_loopw [113] (fun i wr => ∃ (j : Nat) (v : Value), i = .int .i64 j ∧ j ≤ n ∧ wc.heap.size ≤ wr.heap.size ∧ RS pb (pb + 1) a wc ((rowZ k).take j) v wr) (fun i _ => n - (intOf i).toNat)
    case atStart => exact ⟨0, _, rfl, by omega, Nat.le_refl _, HST.out⟩
    case round =>
      obtain ⟨j, v, rfl, hj, hsz, hrs⟩ := hrel
      have HRS := Lib.hid hrs
      clear hrs
      by_cases hlt : j < n
      · obtain ⟨g, rfl, hg, c1, c2⟩ := HC.out j hlt
        obtain ⟨e1, e2, e3, e4⟩ := HRS.out
        have hgr := (e4 g rfl).1
        have d1 := (World.cell?_of_block (w := wc) hgr).trans c1
        have d2 := (World.cell?_of_block (w := wc) hgr).trans c2
        have hgp : g ≠ pb := by
          rintro rfl
          have h0 := HC.out 0 (by omega)
          obtain ⟨g', hg', _, _, h1⟩ := h0
          cases hg'
          have h2 := HBC.out
          simp [World.cell?, h2] at h1
        have hlt' : j < (rowZ k).length := by rw [HL.out]; exact hlt
        have hts : (rowZ k).take (j + 1) = (rowZ k).take j ++ [(rowZ k).getD j (0, 0)] := by
          rw [List.take_succ_eq_append_getElem hlt', List.getD_eq_getElem?_getD, List.getElem?_eq_getElem hlt']; rfl
        have htl : ((rowZ k).take j).length < 1073741824 := by rw [List.length_take]; omega
        have HT := Lib.hid hts
        have hgw : g < wr.heap.size := by omega
        have hpr : pb < wr.heap.size := by omega
        clear hts c1 c2 HC HST HBC HB
        obtain ⟨⟨r1, r2⟩, hr⟩ : ∃ r, r = (rowZ k).getD j (0, 0) := ⟨_, rfl⟩
        rw [← hr] at d1 d2 HT
        clear hr
        simp only at d1 d2
        have happ := app_any r1 r2 pb (pb + 1) v ((rowZ k).take j) (wr.alloc (.cells #[.int .i64 r1, .int .i64 r2] 32)) ((alloc_block _ _ hpr).trans e1) (e2.alloc _) (by omega) (by simp; omega) htl
        have HAPP := Lib.hid happ
        have E4 := Lib.hid e4
        have E3 := Lib.hid e3
        clear happ e1 e2 e3 e4 HRS hgr
        go_wp2_with fail
        refine HAPP.out.mono ?_
        rintro e w' ⟨rfl, v', f1, f2, f3, f4⟩
        have hsz2 : wc.heap.size ≤ w'.heap.size := by have := f3.size; simp at this; omega
        have hnew : RS pb (pb + 1) (some ⟨g, 0, none⟩) wc ((rowZ k).take (j + 1)) v' w' := by
          refine ⟨f1, by rw [HT.out]; exact f2, (E3.out.trans (((Below.refl _ _).alloc (by omega) _).trans f3)), fun g' hg' => ?_⟩
          cases hg'
          have := f4 g (by simp; omega) hgp (E4.out g rfl).2
          exact ⟨this.1.trans ((alloc_block _ _ hgw).trans (E4.out g rfl).1), this.2⟩
        have HNEW := Lib.hid hnew
        clear hnew f1 f2 f3 f4
        go_wp2_with fail
        go_roundw
        case rel => exact ⟨j + 1, v', by go_num, by omega, hsz2, HNEW.out⟩
        case measure => simp [intOf]; omega
      · have hke : (rowZ k).take j = rowZ k := List.take_of_length_le (by rw [HL.out]; omega)
        obtain ⟨e1, e2, e3, e4⟩ := HRS.out
        rw [hke] at e2
        have E1 := Lib.hid e1
        have E2 := Lib.hid e2
        have E3 := Lib.hid e3
        clear e1 e2 e3 e4 HRS hke HC HST HBC HB
        go_wp2_with fail
        go_ret
        exact ⟨rfl, v, E1.out, E2.out, (Below.mono hq0 (by omega)).trans E3.out⟩

set_option maxHeartbeats 800000 in
theorem ranges_any (k : Int) (w : World) :
    Calls Try.prog 16 #[.int .i64 k] w fun e w' => ∃ v, e = .returned v ∧ OwnP w' (w.heap.size + 1) v (rowZ k) ∧ Q w w' := by
  have hb : (w.alloc (.cells #[.slice none 0 0] 27)).heap[w.heap.size]? = some (.cells #[.slice none 0 0] 27 (0, 0)) := by
    show (w.heap.push _)[w.heap.size]? = _
    simp
  have HE := Lib.hid (each_app k w.heap.size _ hb)
  clear hb
  go_enter Try.func16, Try.ntmps16
  go_wp2_with fail
  refine HE.out.mono ?_
  rintro e w' ⟨rfl, v, f1, f2, f3⟩
  have hc := cell_of_one f1
  have F2 := Lib.hid f2
  have F3 := Lib.hid f3
  clear f1 f2 f3
  go_wp2_with fail
  go_ret
  exact ⟨v, rfl, F2.out, ((Q.refl w).alloc _).below.trans F3.out⟩

end Go.Proofs.Ythafeggcmojbdaa
