/- The program's items of the digits ahead of the separator. (and more) -/
import Derived.Test.YtnlfeamhedihpaaGreatDoorR00
import Derived.Test.YtnlfeamhedihpaaGreatDoorR02
import Derived.Test.YtnlfeamhedihpaaGreatDoorR01
import Derived.Test.YtnlfeamhedihpaaGreatDoorR41
import Derived.Test.YtnlfeamhedihpaaGreatDoorR07
import Derived.Test.YtnlfeamhedihpaaGreatDoorR10
import Derived.Test.YtnlfeamhedihpaaGreatDoorR03
import Derived.Test.YtnlfeamhedihpaaGreatDoorR26
import Derived.Test.YtnlfeamhedihpaaGreatDoorR09
import Derived.Test.YtnlfeamhedihpaaGreatDoorR40
import Derived.Test.YtnlfeamhedihpaaGreatDoorRows
import Derived.Test.YtnlfeamhedihpaaGreatDoorR04
import Derived.Test.YtnlfeamhedihpaaGreatDoorR05
import Derived.Test.YtnlfeamhedihpaaGreatDoorR15
import Derived.Test.YtnlfeamhedihpaaGreatDoorR36
import Derived.Test.YtnlfeamhedihpaaGreatDoorR29
import Derived.Test.YtnlfeamhedihpaaGreatDoorR31
import Derived.Deep.RegionHeld
import Derived.Deep.QuietTactic
import Derived.BigQuiet
set_option linter.unusedVariables false
set_option linter.unusedSimpArgs false
namespace Go.Proofs.YtnlfeamhedihpaaGreatDoor
open Go.RowKit
namespace It
open Um Im Lo
theorem digit_ok (g0 : Nat) (r : Lm.Rec) (X : Pt.Pat) (a b c d cl : Value) (x : Int) (w : World) (hB : LB w g0 r X a b c d cl) (h0 : 0 ≤ x) (h9 : x ≤ 9) :
    Calls Tryz.prog 56 #[.pointer (some ⟨g0, 0, none⟩), .int .i64 x] w fun e w' => e = .returned (.string (Lm.dgt r x.toNat)) ∧ Q w w' := by
  have h := digit_in g0 r X a b c d cl x.toNat w hB (by omega)
  rwa [show ((x.toNat : Nat) : Int) = x from by omega] at h
set_option maxRecDepth 100000 in
set_option maxHeartbeats 3200000 in
theorem whole_any (g0 : Nat) (r : Lm.Rec) (X : Pt.Pat) (a b c d cl : Value) (g s : Bool) (e1 e2 : Option Addr) (m1 m2 f1 f2 : Nat) (I F : List Int) (w : World) (hB : LB w g0 r X a b c d cl) (hi : Lst w (.slice e1 m1 f1) I) (k1 : I.length = m1) (l1 : m1 ≤ 1000) (hI : Dm.okD I) (hc2 : f2 ≤ maxLen) (hn2 : m2 ≤ f2) :
    Calls Tryz.prog 30 #[.pointer (some ⟨g0, 0, none⟩), .agg #[.bool g, .slice e1 m1 f1, .bool s, .slice e2 m2 f2]] w fun e w' => ∃ x, e = .returned x ∧ OwnI 51 w' w.heap.size x (whI r X.pr X.se I I.length) ∧ Q w w' := by
  have HV := Lib.hid (fun u (q : Q w u) k (h : k < m1) => (hi.q q).cellOf k1 h)
  have hr := fun u (q : Q w u) => Ro.record_any g0 r X a b c d cl u (hB.q q)
  unfold recV at hr
  have HR := Lib.hid hr
  have HSZ := Lib.hid (fun u (q : Q w u) => sizes_any g0 r X a b c d cl u (hB.q q))
  have HDG := Lib.hid (fun x (h0 : 0 ≤ x) (h9 : x ≤ 9) u (q : Q w u) => digit_ok g0 r X a b c d cl x u (hB.q q) h0 h9)
  have HEN := Lib.hid (fun l u (l0 : -9223372036854775808 ≤ l) (l1 : l ≤ 9223372036854775807) => It.ends_any l X.pr X.se u l0 l1)
  have HDX := Lib.hid (digit_at hI)
  have hws := whI_succ r X.pr X.se I
  rw [k1] at hws
  have HWS := Lib.hid hws
  have HWL := Lib.hid (whI_len r X.pr X.se I)
  have HWZ := Lib.hid (whI_zero r X.pr X.se I)
  have HGR := Lib.hid (show ∀ l, grpI r l X.pr X.se = if endB l X.pr X.se = true then [(3, Lm.bs r.grp, -1)] else [] from fun _ => rfl)
  have HDE := Lib.hid (show ∀ x i, dgE r x i = (2, Lm.dgt r x.toNat, i) from fun _ _ => rfl)
  have HF := Lib.hid (fun u => fldG u (Lm.bs r.nam) (Lm.bs r.pat) (Lm.bs r.sys) (Lm.bs r.dec) (Lm.bs r.grp) (Lm.bs r.min) (Lm.bs r.per) (Lm.bs r.cur))
  have hic := hi.form0 k1
  obtain ⟨_, _, hv, hnc, hcm⟩ := hic
  cases hv
  rw [k1]
  unfold maxLen at hcm hc2
  clear hr hws hB hi k1 hI
  generalize whI r X.pr X.se I = WI at *
  generalize X.pr = p0 at *
  generalize X.se = p1 at *
  generalize Lm.bs r.nam = s0 at *
  generalize Lm.bs r.pat = s1 at *
  generalize Lm.bs r.sys = s2 at *
  generalize Lm.bs r.dec = s3 at *
  generalize Lm.bs r.grp = s4 at *
  generalize Lm.bs r.min = s5 at *
  generalize Lm.bs r.per = s6 at *
  generalize Lm.bs r.cur = s7 at *
  obtain ⟨z, hz⟩ : ∃ z, z = w.alloc (.cells #[.bool g, .slice e1 m1 f1, .bool s, .slice e2 m2 f2] 40) := ⟨_, rfl⟩
  have HQZ := Lib.hid (show Q w z by rw [hz]; exact (Q.refl w).alloc _)
  have HDZ := Lib.hid (show Bk z w.heap.size 40 [.bool g, .slice e1 m1 f1, .bool s, .slice e2 m2 f2] by rw [hz]; exact Bk.new _ _ _)
  go_enter Tryz.func30, Tryz.ntmps30
  go_upto_region 1 with fail
  rw [← hz]
  clear hz
  obtain ⟨bd, hbd⟩ : ∃ b, b = w.heap.size := ⟨_, rfl⟩
  rw [← hbd] at HDZ ⊢
  clear hbd
  go_wp2_with fail
  refine (HSZ.out _ HQZ.out).mono ?_
  rintro e w1 ⟨rfl, hq1⟩
  have HQ1 := Lib.hid (HQZ.out.trans hq1)
  have HD1 := Lib.hid (HDZ.out.q hq1)
  clear hq1
  have y1 := HD1.out.cell 1 rfl
  go_wp2_with fail
  clear y1
  go_loopw [5, 17] (fun x i wr => ∃ k : Nat, i = .int .i64 k ∧ k ≤ m1 ∧ OwnI 51 wr w1.heap.size x (WI k) ∧ Q w1 wr) (fun _ i _ => m1 - (intOf i).toNat)
  case atStart => exact ⟨0, rfl, by omega, by rw [HWZ.out]; exact OwnI.nil _ _ _, Q.refl _⟩
  case round =>
    obtain ⟨k, rfl, hk, ho, hq⟩ := hrel
    by_cases hlt : k < m1
    · have hwl := HWL.out k
      obtain ⟨ol, hol2⟩ : ∃ n, n = (WI k).length := ⟨_, rfl⟩
      rw [← hol2] at hwl
      obtain ⟨oa, oc, rfl, _, _⟩ := ho.lst.form0 hol2.symm
      have HOL := Lib.hid hol2
      clear hol2
      have HQR := Lib.hid (HQ1.out.trans hq)
      obtain ⟨gg, off, cap, hvv, hg, _, _, c1'⟩ := HV.out wr HQR.out k hlt
      cases hvv
      have HWK := Lib.hid (HWS.out k)
      have hdx := HDX.out k
      have HEK := Lib.hid (fun u => HEN.out ((m1 : Int) - 1 - k) u (by omega) (by omega))
      generalize I.getD k 0 = x at *
      rw [HDE.out, HGR.out] at HWK
      have HDX2 := Lib.hid (fun u q => HDG.out x hdx.1 hdx.2 u q)
      generalize Lm.dgt r x.toNat = D at *
      have HO := Lib.hid ho
      have HQ := Lib.hid hq
      have HDR := Lib.hid (HD1.out.q hq)
      have y1 := HDR.out.cell 1 rfl
      clear ho hq
      go_wp2_with fail
      refine (HDX2.out _ HQR.out).mono ?_
      rintro e w2 ⟨rfl, hq2⟩
      clear y1 c1'
      have HQ2 := Lib.hid (HQ.out.trans hq2)
      have HO2 := Lib.hid (HO.out.q hq2)
      have HD2 := Lib.hid (HDR.out.q hq2)
      have hle2 := HQ2.out.le
      clear hq2
      go_wp2_with (at_builtin; refine Im.push elP HO2.out rfl _ _ rfl 2 D (k : Int) (by rfl) (by rfl) (by rw [← HOL.out]; omega) hle2 ?_)
      intro v3 w3 ho3 hg3 hat3
      have HQ3 := Lib.hid (HQ2.out.grown hg3 (fun j h => (HO2.out.lt j h).1))
      have HO3 := Lib.hid ho3
      have HD3 := Lib.hid (HD1.out.q HQ3.out)
      have y1 := HD3.out.cell 1 rfl
      have hl3 := ho3.lst.form0 (n := ol + 1) (by rw [List.length_append, ← HOL.out]; rfl)
      obtain ⟨a3, c3, rfl, _, _⟩ := hl3
      clear ho3 hg3 hat3 hle2
      go_wp2_with fail
      refine (HEK.out _).mono ?_
      rintro e w4 ⟨rfl, rfl⟩
      clear y1
      cases heb : endB ((m1 : Int) - 1 - k) p0 p1
      · have HO4 := Lib.hid (show OwnI 51 w3 w1.heap.size (.slice a3 (ol + 1) c3) (WI (k + 1)) by rw [HWK.out, heb]; simpa using HO3.out)
        clear heb
        go_wp2_with fail
        exact ⟨⟨k + 1, by go_num, by omega, HO4.out, HQ3.out⟩, by simp [intOf]; omega⟩
      · have HW4 := Lib.hid (show WI (k + 1) = WI k ++ [(2, D, (k : Int))] ++ [(3, s4, -1)] by rw [HWK.out, heb]; simp)
        clear heb
        go_wp2_with fail
        refine (HR.out _ (HQ1.out.trans HQ3.out)).mono ?_
        rintro e w5 ⟨rfl, hq5⟩
        have HQ5 := Lib.hid (HQ3.out.trans hq5)
        have HO5 := Lib.hid (HO3.out.q hq5)
        have hle5 := HQ5.out.le
        have hf := HF.out w5
        clear hq5
        go_wp2_with (at_builtin; refine Im.push elP HO5.out rfl _ _ rfl 3 s4 (-1) (by rfl) (by rfl) (by rw [List.length_append, ← HOL.out]; simp; omega) hle5 ?_)
        intro v6 w6 ho6 hg6 hat6
        have HQ6 := Lib.hid (HQ5.out.grown hg6 (fun j h => (HO5.out.lt j h).1))
        have HO6 := Lib.hid (show OwnI 51 w6 w1.heap.size v6 (WI (k + 1)) by rw [HW4.out]; simpa [List.append_assoc] using ho6)
        clear ho6 hg6 hat6 hf
        go_wp2_with fail
        exact ⟨⟨k + 1, by go_num, by omega, HO6.out, HQ6.out⟩, by simp [intOf]; omega⟩
    · obtain rfl : k = m1 := by omega
      have HO := Lib.hid (ho.mono HQ1.out.le)
      have HQ := Lib.hid (HQ1.out.trans hq)
      clear ho hq
      go_wp2_with fail
      go_ret
      exact ⟨_, rfl, HO.out, HQ.out⟩
end It
end Go.Proofs.YtnlfeamhedihpaaGreatDoor
namespace Go.Proofs.YtnlfeamhedihpaaGreatDoor
namespace Im
open Um Cm Gm
def pln (l : List UInt8) : Bool := okL l && plainB (allL l)
theorem ok_marks {a : List UInt8} (h : okL a = true) (b : List UInt8) : marks (a ++ b) = marks a ++ marks b := by
  have e := join_ok a h
  have hv := allL_vld a
  have h1 := marks_join (allL a) b hv
  rw [e] at h1
  have h2 := marks_join0 (allL a) hv
  rw [e] at h2
  rw [h1, ← h2]
theorem allL_app {a : List UInt8} (h : okL a = true) (b : List UInt8) : allL (a ++ b) = allL a ++ allL b := by
  unfold allL
  rw [ok_marks h b, List.map_append]
theorem okL_app {a b : List UInt8} (h : okL a = true) (k : okL b = true) : okL (a ++ b) = true := by
  unfold okL at *
  rw [ok_marks h b, List.all_append, h, k]; rfl
theorem plain_iff (l : List Int) : plainB l = true ↔ (∀ c ∈ l, cls c = 0 ∨ cls c = 4) ∧ ∃ c r, l = c :: r ∧ cls c = 0 := by
  unfold plainB plP
  cases l with
  | nil => simp
  | cons c r =>
    simp only [List.all_cons, Bool.and_eq_true, Bool.or_eq_true, beq_iff_eq, List.all_eq_true, decide_eq_true_eq, List.length_cons, List.mem_cons, List.cons.injEq]
    constructor
    · rintro ⟨⟨⟨h1, h2⟩, h3⟩, _⟩
      refine ⟨fun x hx => ?_, c, r, ⟨rfl, rfl⟩, h3⟩
      rcases hx with rfl | hx
      · exact h1
      · exact h2 x hx
    · rintro ⟨h1, c', r', ⟨rfl, rfl⟩, h3⟩
      exact ⟨⟨⟨h1 c (.inl rfl), fun x hx => h1 x (.inr hx)⟩, h3⟩, by omega⟩
theorem plain_app {a b : List Int} (h : plainB a = true) (k : ∀ c ∈ b, cls c = 0 ∨ cls c = 4) : plainB (a ++ b) = true := by
  rw [plain_iff] at *
  obtain ⟨h1, c, r, rfl, h2⟩ := h
  refine ⟨fun x hx => ?_, c, r ++ b, rfl, h2⟩
  rcases List.mem_append.1 hx with hx | hx
  · exact h1 x hx
  · exact k x hx
theorem pln_app {a b : List UInt8} (h : pln a = true) (k : pln b = true) : pln (a ++ b) = true := by
  unfold pln at *
  simp only [Bool.and_eq_true] at *
  refine ⟨okL_app h.1 k.1, ?_⟩
  rw [allL_app h.1]
  exact plain_app h.2 ((plain_iff _).1 k.2).1
theorem pln_ne {a : List UInt8} (h : pln a = true) : a ≠ [] := by
  rintro rfl
  unfold pln at h
  simp only [Bool.and_eq_true] at h
  obtain ⟨_, c, r, h2, _⟩ := (plain_iff _).1 h.2
  cases h2
theorem jn_zero (t : St) (h : t.k ≠ 7) : jn t 0 = false := by
  obtain ⟨a, d, s, o⟩ := t
  simp only at h
  have hs : sylB a 0 = false := by
    unfold sylB
    split
    · decide
    · split
      · decide
      · split <;> decide
  unfold jn pairB
  simp only [show decide ((0 : Int) = 14) = false from rfl, show decide ((0 : Int) = 6) = false from rfl, Bool.and_false, Bool.or_false]
  split
  · rfl
  · rw [if_neg (by omega)]
    split
    · rfl
    · simp [h, hs]
theorem stL_k7 (X : List Int) (h : ∀ c ∈ X, cls c ≠ 7) : (stL X).k ≠ 7 := by
  cases hX : X with
  | nil => decide
  | cons c r =>
    have hne : X ≠ [] := by rw [hX]; simp
    obtain ⟨s, d, hs⟩ : ∃ s d, X = s ++ [d] := ⟨X.dropLast, X.getLast hne, (List.dropLast_concat_getLast hne).symm⟩
    rw [← hX, hs, stL_snoc]
    have h7 := h d (by rw [hs]; simp)
    show ((cls d : Nat) : Int) ≠ 7
    omega
theorem pln_pcs {a b : ByteArray} (h : pln a.data.toList = true) (k : pln b.data.toList = true) : pcs (a ++ b) = pcs a ++ pcs b := by
  have hne := pln_ne k
  unfold pln at h k
  simp only [Bool.and_eq_true] at h k
  refine pcs_part a b (ok_marks h.1 _) (fun _ => ?_)
  obtain ⟨_, c, r, hc, h0⟩ := (plain_iff _).1 k.2
  have e : (mrk b.data.toList).1 = c := by
    unfold allL at hc
    rw [marks_cons _ hne, List.map_cons] at hc
    exact (List.cons.inj hc).1
  rw [e, h0]
  refine jn_zero _ ?_
  unfold stMs
  refine stL_k7 _ (fun x hx => ?_)
  have := ((plain_iff _).1 h.2).1 x hx
  omega
theorem pcs_emp : pcs ⟨#[]⟩ = [] := by
  have h : (pcs ⟨#[]⟩).length = 0 := by rw [pcs_length]; rw [begL_zero]
  exact List.eq_nil_of_length_eq_zero h
theorem bs_app (a b : List UInt8) : (⟨(a ++ b).toArray⟩ : ByteArray) = (⟨a.toArray⟩ : ByteArray) ++ ⟨b.toArray⟩ := by
  apply ByteArray.ext
  rw [ByteArray.data_append]
  apply Array.ext'
  simp
theorem pcs_tx : ∀ (l : List E), (∀ e ∈ l, pln e.2.1.data.toList = true) → pcs ⟨(txI l).toArray⟩ = l.flatMap (fun e => pcs e.2.1) ∧ (txI l = [] ∨ pln (txI l) = true)
  | [], _ => ⟨pcs_emp, .inl rfl⟩
  | e :: l, h => by
    obtain ⟨h1, h2⟩ := pcs_tx l (fun x hx => h x (List.mem_cons_of_mem _ hx))
    have he := h e List.mem_cons_self
    have ht : txI (e :: l) = e.2.1.data.toList ++ txI l := by unfold txI; rw [List.flatMap_cons]
    have hb : (⟨(e.2.1.data.toList).toArray⟩ : ByteArray) = e.2.1 := by
      apply ByteArray.ext
      simp
    rw [ht, List.flatMap_cons, ← h1]
    rcases h2 with h2 | h2
    · rw [h2, List.append_nil, hb, pcs_emp, List.append_nil]
      exact ⟨rfl, .inr he⟩
    · refine ⟨?_, .inr (pln_app he h2)⟩
      rw [bs_app, hb]
      exact pln_pcs he (by simpa using h2)
def pE (l : List UInt8) : Prop := l = [] ∨ pln l = true
theorem pE_app {a b : List UInt8} (h : pE a) (k : pE b) : pE (a ++ b) := by
  rcases h with rfl | h
  · simpa using k
  · rcases k with rfl | k
    · rw [List.append_nil]; exact .inr h
    · exact .inr (pln_app h k)
theorem pE_flat {α : Type} (f : α → List UInt8) : ∀ l : List α, (∀ x ∈ l, pE (f x)) → pE (l.flatMap f)
  | [], _ => .inl rfl
  | x :: l, h => by
    rw [List.flatMap_cons]
    exact pE_app (h x List.mem_cons_self) (pE_flat f l fun y hy => h y (List.mem_cons_of_mem _ hy))
theorem word_pln {l : List UInt8} (h : Lm.wordB l = true) : pln l = true ∧ l.length ≤ 16 := by
  unfold Lm.wordB at h
  simp only [Bool.and_eq_true, decide_eq_true_eq] at h
  exact ⟨by unfold pln; simp only [Bool.and_eq_true]; exact h.2, h.1⟩
theorem sym_pln {l : List UInt8} (h : Lm.symB l = true) : pln l = true ∧ l.length ≤ 16 := by
  unfold Lm.symB at h
  simp only [Bool.and_eq_true] at h
  exact word_pln h.1
theorem ptx_pE {r : Lm.Rec} {X : Pt.Pat} (h : It.LOk r X) {A : List Pc.E} (hA : A ∈ Lm.affs X) {x : Pc.E} (hx : x ∈ A) : pE (Lm.ptx r x) := by
  have h1 := (h.ok.aff A hA).2 x hx
  unfold Lm.ptx
  by_cases h0 : x.1 = 0
  · rw [if_pos h0]
    refine .inr ?_
    unfold pln
    rw [h.tx A hA x hx, h1.2.2.1 h0]; rfl
  · rw [if_neg h0]
    by_cases h2 : x.1 = 1
    · rw [if_pos h2]
      rcases h.ok.cur with hw | hw
      · exact .inr (word_pln hw).1
      · exact .inl hw.1
    · rw [if_neg h2]
      by_cases h3 : x.1 = 2
      · rw [if_pos h3]
        rcases h.ok.per with hw | hw
        · exact .inr (word_pln hw).1
        · exact .inl hw.1
      · rw [if_neg h3]; exact .inl rfl
theorem atx_pE {r : Lm.Rec} {X : Pt.Pat} (h : It.LOk r X) {A : List Pc.E} (hA : A ∈ Lm.affs X) (B : List Pc.E) (hB : ∀ x ∈ B, x ∈ A) : pE (Lm.atx r B) :=
  pE_flat _ B fun x hx => ptx_pE h hA (hB x hx)
theorem parP_mem {r : Lm.Rec} {A : List Pc.E} {p : Pb.E} (h : p ∈ Lo.parP r A) : p.1 = true ∨ ∃ B, p.2 = Lm.atx r B ∧ (∀ x ∈ B, x ∈ A) ∧ p.2.length ≤ (Lm.atx r A).length := by
  unfold Lo.parP at h
  split at h
  · have h1 := (List.mem_filter.1 h).1
    simp only [List.mem_cons, List.not_mem_nil, or_false] at h1
    subst h1
    exact .inr ⟨A, rfl, fun x hx => hx, Nat.le_refl _⟩
  · have h1 := (List.mem_filter.1 h).1
    simp only [List.mem_cons, List.not_mem_nil, or_false] at h1
    rcases h1 with rfl | rfl | rfl
    · exact .inr ⟨_, rfl, fun x hx => List.mem_of_mem_take hx, (Lo.atx_le r A _).1⟩
    · exact .inl rfl
    · exact .inr ⟨_, rfl, fun x hx => List.mem_of_mem_drop hx, (Lo.atx_le r A _).2⟩
def okT (t : ByteArray) : Prop := pln t.data.toList = true ∧ t.size ≤ 64
theorem bs_okT {l : List UInt8} (h : pln l = true) (hl : l.length ≤ 64) : okT (Lm.bs l) := ⟨by rw [Lm.bs_list]; exact h, by rw [Lm.bs_size]; exact hl⟩
theorem aff_okT {r : Lm.Rec} {X : Pt.Pat} (h : It.LOk r X) {A : List Pc.E} (hA : A ∈ Lm.affs X) {p : Pb.E} (hp : p ∈ Lo.parP r A) : okT (affE r p).2.1 := by
  have hf := Ro.parP_fact r A (Ro.cnt_le r X A h.ok hA) (fun x hx h3 => ((h.ok.aff A hA).2 x hx).2.2.2 (by omega))
  unfold affE
  by_cases h1 : p.1 = true
  · rw [if_pos h1]
    obtain ⟨h2, h3⟩ := sym_pln h.ok.min
    exact bs_okT h2 (by omega)
  · rw [if_neg h1]
    rcases parP_mem hp with h2 | ⟨B, h2, h3, h4⟩
    · exact absurd h2 h1
    · have hlen := h.ok.len A hA
      refine bs_okT ?_ (by omega)
      rcases atx_pE h hA B h3 with h5 | h5
      · have h6 := hf.1 p hp
        rw [h2, h5] at h6
        exact absurd h6 h1
      · rw [h2]; exact h5
theorem dig_cls : ∀ p ∈ Sm.tab, ∀ d : Nat, d < 10 → cls (p.2 + (d : Int)) = 0 ∧ vld (p.2 + (d : Int)) = true ∧ (enc (p.2 + (d : Int))).length ≤ 4 := by decide +kernel
theorem dgt_okT {r : Lm.Rec} {X : Pt.Pat} (h : It.LOk r X) (x : Int) (h0 : 0 ≤ x) (h9 : x ≤ 9) : okT (Lm.dgt r x.toNat) := by
  have hz := h.ok.sys
  rcases Sm.nz_cases r.sys with hn | hn
  · omega
  · obtain ⟨h1, h2, h3⟩ := dig_cls _ hn x.toNat (by omega)
    dsimp only at h1 h2 h3
    rw [Ro.dgt_enc hz x.toNat (by omega)]
    have he := encB_list _ h2
    generalize Sm.nz r.sys + (x.toNat : Int) = c0 at *
    refine ⟨?_, ?_⟩
    · rw [he]
      have hj : joinL [c0] = enc c0 := by
        unfold joinL
        rw [List.flatMap_cons, List.flatMap_nil, List.append_nil, Um.one, if_pos h2]
      have hvv : ∀ c ∈ [c0], vld c = true := by
        intro c hc
        simp only [List.mem_cons, List.not_mem_nil, or_false] at hc
        subst hc; exact h2
      unfold pln
      rw [← hj, okL_join _ hvv, allL_join _ hvv]
      unfold plainB plP
      simp [h1]
    · rw [← size_list, he]; omega
theorem grp_okT {r : Lm.Rec} {X : Pt.Pat} (h : It.LOk r X) {l : Int} {e : E} (he : e ∈ grpI r l X.pr X.se) : okT e.2.1 := by
  unfold grpI at he
  split at he
  · rename_i hb
    simp only [List.mem_cons, List.not_mem_nil, or_false] at he
    subst he
    have hp : 0 < X.pr := by
      by_cases hp : X.pr < 1
      · rw [endB_out (.inl hp)] at hb; cases hb
      · omega
    obtain ⟨h2, h3⟩ := sym_pln (h.ok.grp1 hp)
    exact bs_okT h2 (by omega)
  · cases he
theorem wh_okT {r : Lm.Rec} {X : Pt.Pat} (h : It.LOk r X) {I : List Int} (hI : Dm.okD I) : ∀ k, ∀ e ∈ whI r X.pr X.se I k, okT e.2.1
  | 0, e, he => by cases he
  | k + 1, e, he => by
    rw [whI_succ] at he
    rcases List.mem_append.1 he with he | he
    · exact wh_okT h hI k e he
    · rcases List.mem_cons.1 he with rfl | he
      · have hd := digit_at hI k
        exact dgt_okT h _ hd.1 hd.2
      · exact grp_okT h he
theorem re_okT {r : Lm.Rec} {X : Pt.Pat} (h : It.LOk r X) {F : List Int} (hF : Dm.okD F) (n : Nat) : ∀ k, ∀ e ∈ reI r n F k, okT e.2.1
  | 0, e, he => by
    rw [reI_zero] at he
    simp only [List.mem_cons, List.not_mem_nil, or_false] at he
    subst he
    obtain ⟨h2, h3⟩ := sym_pln h.ok.dec
    exact bs_okT h2 (by omega)
  | k + 1, e, he => by
    rw [reI_succ] at he
    rcases List.mem_append.1 he with he | he
    · exact re_okT h hF n k e he
    · simp only [List.mem_cons, List.not_mem_nil, or_false] at he
      subst he
      have hd := digit_at hF k
      exact dgt_okT h _ hd.1 hd.2
theorem itm_okT {r : Lm.Rec} {X : Pt.Pat} (h : It.LOk r X) {d : Tm.T} (hI : Dm.okD d.i) (hF : Dm.okD d.f) (g : Bool) : ∀ e ∈ itm r X.pr X.se d (Lo.parP r (Ro.ahd g X)) (Lo.parP r (Ro.bhd g X)), okT e.2.1 := by
  have hm1 : Ro.ahd g X ∈ Lm.affs X := by cases g <;> simp [Ro.ahd, Lm.affs]
  have hm2 : Ro.bhd g X ∈ Lm.affs X := by cases g <;> simp [Ro.bhd, Lm.affs]
  intro e he
  unfold itm at he
  rcases List.mem_append.1 he with he | he
  · rcases List.mem_append.1 he with he | he
    · rcases List.mem_append.1 he with he | he
      · obtain ⟨p, hp, rfl⟩ := List.mem_map.1 he
        exact aff_okT h hm1 hp
      · exact wh_okT h hI _ e he
    · unfold resI at he
      split at he
      · exact re_okT h hF _ _ e he
      · cases he
  · obtain ⟨p, hp, rfl⟩ := List.mem_map.1 he
    exact aff_okT h hm2 hp
theorem tx_len : ∀ (l : List E), (∀ e ∈ l, okT e.2.1) → (txI l).length ≤ 64 * l.length
  | [], _ => Nat.le_refl _
  | e :: l, h => by
    have h1 := tx_len l fun x hx => h x (List.mem_cons_of_mem _ hx)
    have h2 := (h e List.mem_cons_self).2
    have ht : txI (e :: l) = e.2.1.data.toList ++ txI l := by unfold txI; rw [List.flatMap_cons]
    rw [ht, List.length_append, size_list, List.length_cons]
    omega
end Im
end Go.Proofs.YtnlfeamhedihpaaGreatDoor
