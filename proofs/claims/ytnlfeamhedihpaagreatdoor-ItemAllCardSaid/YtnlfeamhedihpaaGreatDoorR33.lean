/- The document's own answers on locales: the parts of an affix. (and more) -/
import Derived.Test.YtnlfeamhedihpaaGreatDoorR00
import Derived.Test.YtnlfeamhedihpaaGreatDoorR02
import Derived.Test.YtnlfeamhedihpaaGreatDoorR04
import Derived.Test.YtnlfeamhedihpaaGreatDoorR05
import Derived.Test.YtnlfeamhedihpaaGreatDoorR26
import Derived.Test.YtnlfeamhedihpaaGreatDoorR01
import Derived.Test.YtnlfeamhedihpaaGreatDoorR27
import Derived.Test.YtnlfeamhedihpaaGreatDoorR09
import Derived.Test.YtnlfeamhedihpaaGreatDoorR31
import Derived.Test.YtnlfeamhedihpaaGreatDoorR24
import Derived.Test.YtnlfeamhedihpaaGreatDoorR29
import Derived.Test.YtnlfeamhedihpaaGreatDoorR30
import Derived.Test.YtnlfeamhedihpaaGreatDoorR13
import Derived.Test.YtnlfeamhedihpaaGreatDoorR20
import Derived.Test.YtnlfeamhedihpaaGreatDoorRows
import Derived.Deep.QuietTactic
import Derived.BigQuiet
set_option linter.unusedVariables false
set_option linter.unusedSimpArgs false
namespace Go.Proofs.YtnlfeamhedihpaaGreatDoor
open Go.RowKit
namespace Ro
open Um Cm Gm Lo
theorem elT : Pb.El 119 71 := ⟨by kernel_rfl, Tryz.underlying71⟩
theorem bs_cat (s t : List UInt8) : Lm.bs s ++ Lm.bs t = Lm.bs (s ++ t) := by
  apply ByteArray.ext
  apply Array.ext'
  simp [Lm.bs]
theorem refO_at (r : Lm.Rec) (A : List Pc.E) (k : Nat) (hk : k < A.length) : refO r (A.take (k + 1)) [] = if (A.getD k (0, [])).1 = 3 then ((refO r (A.take k) []).1 ++ tx1 (refO r (A.take k) []).2 ++ [((true, []) : Pb.E)], []) else ((refO r (A.take k) []).1, (refO r (A.take k) []).2 ++ Lm.ptx r (A.getD k (0, []))) := by
  rw [List.take_succ_eq_append_getElem hk, refO_snoc, List.getD_eq_getElem?_getD, List.getElem?_eq_getElem hk]; rfl
set_option maxRecDepth 100000 in
set_option maxHeartbeats 2000000 in
theorem rparts_any (r : Lm.Rec) (X : Pt.Pat) (a b c d v : Value) (A : List Pc.E) (w : World) (hL : LL w X a b c d) (hv : Pc.LstP w v A) (hA : A.length ≤ 10) (hk : ∀ x ∈ A, (0 ≤ x.1 ∧ x.1 ≤ 3)) (hz : (Lm.atx r A).length ≤ 64) :
    Calls Tryz.prog 57 #[lV r X a b c d, v] w fun e w' => ∃ u, e = .returned u ∧ Pb.LstP w' u (refP r A []) ∧ Q w w' := by
  have HT := Lib.hid (fun (k : Nat) (h : k < A.length) u y (hy : Pc.LstP u y [A.getD k (0, [])]) => text_any r y [A.getD k (0, [])] u hy (by simp) (fun x hx => hk x (by
      rw [List.mem_singleton.1 hx, List.getD_eq_getElem?_getD, List.getElem?_eq_getElem h]; exact List.getElem_mem _)) (by
      have hm : A.getD k (0, []) ∈ A := by rw [List.getD_eq_getElem?_getD, List.getElem?_eq_getElem h]; exact List.getElem_mem _
      have h2 := (List.sublist_flatten_of_mem (List.mem_map_of_mem (f := Lm.ptx r) hm)).length_le
      unfold Lm.atx at hz ⊢
      rw [List.flatMap_def] at hz
      simp only [List.flatMap_cons, List.flatMap_nil, List.append_nil]
      omega))
  have HZ := Lib.hid (fun (k : Nat) (h : k < A.length) => (show (Lm.bs (Lm.atx r [A.getD k (0, [])])).size ≤ 64 by
      have hm : A.getD k (0, []) ∈ A := by rw [List.getD_eq_getElem?_getD, List.getElem?_eq_getElem h]; exact List.getElem_mem _
      have h2 := (List.sublist_flatten_of_mem (List.mem_map_of_mem (f := Lm.ptx r) hm)).length_le
      rw [Lm.bs_size]
      unfold Lm.atx at hz ⊢
      rw [List.flatMap_def] at hz
      simp only [List.flatMap_cons, List.flatMap_nil, List.append_nil]
      omega))
  have HO := Lib.hid (refO_at r A)
  have HS := Lib.hid (fun k => (show (refO r (A.take k) []).2.length ≤ 64 by
    have h1 := refO_len r (A.take k) []
    have h2 := (atx_le r A k).1
    simp only [List.length_nil] at h1; omega))
  have HFW := Lib.hid (fun k => (show (refO r (A.take k) []).1.length ≤ 20 by
    have h1 := refO_few r (A.take k) []
    have h2 : (A.take k).length ≤ A.length := by rw [List.length_take]; omega
    omega))
  have HE := Lib.hid (show refP r A [] = (refO r (A.take A.length) []).1 ++ tx1 (refO r (A.take A.length) []).2 by rw [List.take_length]; exact refO_all r A [])
  have HV := Lib.hid hv
  obtain ⟨n, hn⟩ : ∃ n, n = A.length := ⟨_, rfl⟩
  rw [← hn] at HT HZ HO HE hA
  have HN := Lib.hid hn
  have h00 : refO r (A.take 0) [] = ([], []) := rfl
  obtain ⟨va, vc, rfl, hc1, hc2⟩ := hv.form0 hn.symm
  generalize refP r A [] = RP at *
  obtain ⟨F, hF⟩ : ∃ F : Nat → List Pb.E × List UInt8, ∀ k, F k = refO r (A.take k) [] := ⟨fun k => refO r (A.take k) [], fun _ => rfl⟩
  simp only [← hF] at HO HS HFW HE h00
  clear hF hv hk hz hn
  obtain ⟨a1, a2, rfl⟩ := hL.1.shape
  obtain ⟨b1, b2, rfl⟩ := hL.2.1.shape
  obtain ⟨c1, c2, rfl⟩ := hL.2.2.1.shape
  obtain ⟨d1, d2, rfl⟩ := hL.2.2.2.shape
  clear hL
  generalize X.pre.length = n1 at *
  generalize X.suf.length = n2 at *
  generalize X.npre.length = n3 at *
  generalize X.nsuf.length = n4 at *
  unfold lV
  unfold recV at HT
  generalize X.pr = p0 at *
  generalize X.se = p1 at *
  generalize X.mi = p2 at *
  generalize X.mf = p3 at *
  generalize X.xf = p4 at *
  generalize Lm.bs r.nam = s0 at *
  generalize Lm.bs r.pat = s1 at *
  generalize Lm.bs r.sys = s2 at *
  generalize Lm.bs r.dec = s3 at *
  generalize Lm.bs r.grp = s4 at *
  generalize Lm.bs r.min = s5 at *
  generalize Lm.bs r.per = s6 at *
  generalize Lm.bs r.cur = s7 at *
  obtain ⟨z, hz⟩ : ∃ z, z = w.alloc (.cells #[.string s0, .string s1, .string s2, .string s3, .string s4, .string s5, .string s6, .string s7, .slice a1 n1 a2, .slice b1 n2 b2, .slice c1 n3 c2, .slice d1 n4 d2, .int .i64 p0, .int .i64 p1, .int .i64 p2, .int .i64 p3, .int .i64 p4] 34) := ⟨_, rfl⟩
  have HQZ := Lib.hid (show Q w z by rw [hz]; exact (Q.refl w).alloc _)
  have HBZ := Lib.hid (show Bk z w.heap.size 34 [.string s0, .string s1, .string s2, .string s3, .string s4, .string s5, .string s6, .string s7, .slice a1 n1 a2, .slice b1 n2 b2, .slice c1 n3 c2, .slice d1 n4 d2, .int .i64 p0, .int .i64 p1, .int .i64 p2, .int .i64 p3, .int .i64 p4] by rw [hz]; exact Bk.new _ _ _)
  go_enter Tryz.func57, Tryz.ntmps57
  go_upto_region 1 with fail
  rw [← hz]
  clear hz
  generalize w.heap.size = bz at *
  go_wp2_with fail
  go_loopw [5, 6, 7] (fun vo vs vi wr => ∃ k : Nat, vi = .int .i64 k ∧ k ≤ n ∧ (∃ S : ByteArray, vs = .string S ∧ Hid (S = Lm.bs (F k).2)) ∧ Hid (Pb.OwnE 119 wr z.heap.size vo (F k).1) ∧ Q z wr) (fun _ _ i _ => n - (intOf i).toNat)
  case atStart => exact ⟨0, rfl, by omega, ⟨_, rfl, Lib.hid (by rw [h00]; rfl)⟩, Lib.hid (by rw [h00]; exact Pb.OwnE.nil _ _ _), Q.refl _⟩
  case round =>
    obtain ⟨k, rfl, hk, ⟨S, rfl, HSK⟩, HOK, hq⟩ := hrel
    clear h00
    have hss : S.size ≤ 64 := by rw [HSK.out, Lm.bs_size]; exact HS.out k
    have HQ := Lib.hid hq
    have hqle := hq.le
    obtain ⟨oa, oc, hvo⟩ := HOK.out.lst.shape
    obtain ⟨f, hf⟩ : ∃ f, f = (F k).1.length := ⟨_, rfl⟩
    have hf20 : f ≤ 20 := by rw [hf]; exact HFW.out k
    rw [← hf] at hvo
    subst hvo
    have HFL := Lib.hid hf
    clear hf
    by_cases hlt : k < n
    · have HKB := Lib.hid hlt
      have hlti : (k : Int) < (n : Int) := by omega
      obtain ⟨g, off, cap, hvv, hg, _, _, c1, c2⟩ := (HV.out.q (HQZ.out.trans hq)).cellOf HN.out.symm hlt
      cases hvv
      have HX := Lib.hid (show Pc.LstP w (.slice (some ⟨g, off + k * 2, none⟩) 1 (vc - k)) [A.getD k (0, [])] from by
        have h1 := HV.out.drop HN.out.symm hlt
        have hl : k < A.length := by have := HN.out; omega
        have h2 := h1.take 1 (by rw [List.length_drop]; omega)
        rw [List.drop_eq_getElem_cons hl] at h2
        rw [List.getD_eq_getElem?_getD, List.getElem?_eq_getElem hl]
        exact h2)
      have HCU := Lib.hid (fun u (hu : Q wr u) => (show u.cell? ⟨g, off + k * 2, none⟩ = some (.int .i64 (A.getD k (0, [])).1) from (World.cell?_of_block (hu.block hg)).trans c1))
      have HTK := Lib.hid (fun u (hq : Q w u) => HT.out k hlt u _ (HX.out.q hq))
      have hat := HO.out k hlt
      have hzz := HZ.out k hlt
      generalize A.getD k (0, []) = x at *
      clear c2 hq
      by_cases h3 : x.1 = 3
      · rw [if_pos h3] at hat
        rw [h3] at c1
        have HAT := Lib.hid hat
        clear hat h3
        by_cases he : (F k).2 = []
        · have hS : S = ⟨#[]⟩ := by rw [HSK.out, he]; rfl
          subst hS
          have HE0 := Lib.hid he
          clear he
          go_wp2_with (at_builtin; refine Pb.push elT HOK.out rfl _ _ rfl true ⟨#[]⟩ (by rfl) (by rfl) (by rw [← HFL.out]; omega) hqle ?_)
          intro v' w3 ho3 hg3 hat3
          have HQ3 := Lib.hid (HQ.out.grown hg3 (fun j h => (HOK.out.lt j h).1))
          have HO3 := Lib.hid (show Pb.OwnE 119 w3 z.heap.size v' (F (k + 1)).1 by rw [HAT.out, HE0.out]; simpa [tx1] using ho3)
          have HS3 := Lib.hid (show (⟨#[]⟩ : ByteArray) = Lm.bs (F (k + 1)).2 by rw [HAT.out]; rfl)
          clear ho3 hg3 hat3
          go_wp2_with fail
          exact ⟨⟨k + 1, by go_num, by have := HKB.out; omega, ⟨_, rfl, HS3⟩, HO3, HQ3.out⟩, by simp [intOf]; have := HKB.out; omega⟩
        · have hne : S.toList.isEmpty = false := by
            have h1 := bs_ne he
            rw [HSK.out]
            unfold Lm.bs
            cases h2 : (⟨((F k).2).toArray⟩ : ByteArray).toList with
            | nil => rw [h2] at h1; simp at h1
            | cons y ys => rfl
          have HE1 := Lib.hid he
          clear he
          go_wp2_with (at_builtin; refine Pb.push elT HOK.out rfl _ _ rfl false S (by rfl) (by rfl) (by rw [← HFL.out]; omega) hqle ?_)
          intro v' w3 ho3 hg3 hat3
          have HQ3 := Lib.hid (HQ.out.grown hg3 (fun j h => (HOK.out.lt j h).1))
          have HO3 := Lib.hid ho3
          have hle3 := HQ3.out.le
          clear ho3 hg3 hat3
          go_wp2_with (at_builtin; refine Pb.push elT HO3.out rfl _ _ rfl true ⟨#[]⟩ (by rfl) (by rfl) (by rw [List.length_append, ← HFL.out]; simp; omega) hle3 ?_)
          intro v2' w4 ho4 hg4 hat4
          have HQ4 := Lib.hid (HQ3.out.grown hg4 (fun j h => (HO3.out.lt j h).1))
          have HO4 := Lib.hid (show Pb.OwnE 119 w4 z.heap.size v2' (F (k + 1)).1 by
            rw [HAT.out]
            have h1 : tx1 (F k).2 = [((false, S.data.toList) : Pb.E)] := by
              rw [HSK.out, Lm.bs_list]; unfold tx1; rw [if_neg (by simpa using HE1.out)]
            rw [h1]; simpa using ho4)
          have HS4 := Lib.hid (show (⟨#[]⟩ : ByteArray) = Lm.bs (F (k + 1)).2 by rw [HAT.out]; rfl)
          clear ho4 hg4 hat4
          go_wp2_with fail
          exact ⟨⟨k + 1, by go_num, by have := HKB.out; omega, ⟨_, rfl, HS4⟩, HO4, HQ4.out⟩, by simp [intOf]; have := HKB.out; omega⟩
      · rw [if_neg h3] at hat
        have HAT := Lib.hid hat
        have hkind : (x.1 == 3) = false := by rw [beq_eq_false_iff_ne]; exact h3
        obtain ⟨xk, hxk⟩ : ∃ y, y = x.1 := ⟨_, rfl⟩
        rw [← hxk] at c1 h3 hkind
        simp only [← hxk] at HCU
        clear hat hxk
        have hqz := HQZ.out.trans HQ.out
        have hw : IntKind.i64.wrap ((k : Int) + 1) = (k : Int) + 1 := by rw [IntKind.wrap_i64]; omega
        have hzz2 : ¬ 9223372036854775807 < S.size + (Lm.bs (Lm.atx r [x])).size := by omega
        have hw0 : (0 : Int) ≤ (k : Int) + 1 := by omega
        have hw1 : (k : Int) + 1 ≤ (vc : Int) := by omega
        have hw2 : ((k : Int) + 1).toNat = k + 1 := by omega
        have hw4 : ¬ vc = k := by omega
        go_upto_region 7 with fail
        refine wp_region_held_drew (S := fun u => Q wr u) (by kernel_rfl) (by exact (Q.refl wr).drew) (fun hHeld => ?_)
        have hS : Q wr wr.drew := hHeld
        clear hHeld
        have hq : Q wr wr.drew := (Q.refl _).drew
        clear hq
        generalize wr.drew = yR1x0 at *
        change wpAnyH _ _ _ _ _ _ #[ff,ff,ff,ff,ff,ff,ff,ff,ff,ff,ff] _ _
        refine wpAnyH_take (i := 0) (v := ?vR1x1) rfl (by kernel_rfl) (by kernel_rfl) (by kernel_rfl) (by exact fun _ _ _ h => h) (Or.inl ⟨by first | kernel_rfl | rfl, ?hyR1x1⟩) (by exact hS) ?rsR1x1
        case hyR1x1 => (intro uz hSw; (try dsimp only at hSw); go_simp; try with_reducible rfl)
        try simp only [Act.put, sA, sB, sC]
        change wpAnyH _ _ _ _ _ _ #[tt,ff,ff,ff,ff,ff,ff,ff,ff,ff,ff] _ _
        refine wpAnyH_take (i := 1) (v := ?vR1x2) rfl (by kernel_rfl) (by kernel_rfl) (by kernel_rfl) (by exact fun _ _ _ h => h) (Or.inl ⟨by first | kernel_rfl | rfl, ?hyR1x2⟩) (by exact hS) ?rsR1x2
        case hyR1x2 => (intro uz hSw; (try dsimp only at hSw); go_simp; try with_reducible rfl)
        try simp only [Act.put, sA, sB, sC]
        change wpAnyH _ _ _ _ _ _ #[tt,tt,ff,ff,ff,ff,ff,ff,ff,ff,ff] _ _
        refine wpAnyH_take (i := 2) (v := ?vR1x3) rfl (by kernel_rfl) (by kernel_rfl) (by kernel_rfl) (by exact fun _ _ _ h => h) (Or.inl ⟨by first | kernel_rfl | rfl, ?hyR1x3⟩) (by exact hS) ?rsR1x3
        case hyR1x3 => (intro uz hSw; (try dsimp only at hSw); have kb := HBZ.out.q (HQ.out.trans hSw); have q0 := kb.cell 0 rfl; have q1 := kb.cell 1 rfl; have q2 := kb.cell 2 rfl; have q3 := kb.cell 3 rfl; have q4 := kb.cell 4 rfl; have q5 := kb.cell 5 rfl; have q6 := kb.cell 6 rfl; have q7 := kb.cell 7 rfl; clear kb; go_simp; try with_reducible rfl)
        try simp only [Act.put, sA, sB, sC]
        change wpAnyH _ _ _ _ _ _ #[tt,tt,tt,ff,ff,ff,ff,ff,ff,ff,ff] _ _
        refine wpAnyH_take (i := 3) (v := ?vR1x4) rfl (by kernel_rfl) (by kernel_rfl) (by kernel_rfl) (by exact fun _ _ _ h => h) (Or.inl ⟨by first | kernel_rfl | rfl, ?hyR1x4⟩) (by exact hS) ?rsR1x4
        case hyR1x4 => (intro uz hSw; (try dsimp only at hSw); go_simp; try with_reducible rfl)
        try simp only [Act.put, sA, sB, sC]
        change wpAnyH _ _ _ _ _ _ #[tt,tt,tt,tt,ff,ff,ff,ff,ff,ff,ff] _ _
        refine wpAnyH_take (i := 4) (v := ?vR1x5) rfl (by kernel_rfl) (by kernel_rfl) (by kernel_rfl) (by exact fun _ _ _ h => h) (Or.inl ⟨by first | kernel_rfl | rfl, ?hyR1x5⟩) (by exact hS) ?rsR1x5
        case hyR1x5 => (intro uz hSw; (try dsimp only at hSw); go_simp; try with_reducible rfl)
        try simp only [Act.put, sA, sB, sC]
        change wpAnyH _ _ _ _ _ _ #[tt,tt,tt,tt,tt,ff,ff,ff,ff,ff,ff] _ _
        refine wpAnyH_take (i := 5) (v := ?vR1x6) rfl (by kernel_rfl) (by kernel_rfl) (by kernel_rfl) (by exact fun _ _ _ h => h) (Or.inl ⟨by first | kernel_rfl | rfl, ?hyR1x6⟩) (by exact hS) ?rsR1x6
        case hyR1x6 => (intro uz hSw; (try dsimp only at hSw); go_simp; try with_reducible rfl)
        try simp only [Act.put, sA, sB, sC]
        change wpAnyH _ _ _ _ _ _ #[tt,tt,tt,tt,tt,tt,ff,ff,ff,ff,ff] _ _
        refine wpAnyH_take (i := 6) (v := ?vR1x7) rfl (by kernel_rfl) (by kernel_rfl) (by kernel_rfl) (by exact fun _ _ _ h => h) (Or.inl ⟨by first | kernel_rfl | rfl, ?hyR1x7⟩) (by exact hS) ?rsR1x7
        case hyR1x7 => (intro uz hSw; (try dsimp only at hSw); go_simp; try with_reducible rfl)
        try simp only [Act.put, sA, sB, sC]
        change wpAnyH _ _ _ _ _ _ #[tt,tt,tt,tt,tt,tt,tt,ff,ff,ff,ff] _ _
        refine wpAnyH_take (i := 7) (v := ?vR1x8) rfl (by kernel_rfl) (by kernel_rfl) (by kernel_rfl) (by exact fun _ _ _ h => h) (Or.inl ⟨by first | kernel_rfl | rfl, ?hyR1x8⟩) (by exact hS) ?rsR1x8
        case hyR1x8 => (intro uz hSw; (try dsimp only at hSw); go_simp; try with_reducible rfl)
        try simp only [Act.put, sA, sB, sC]
        change wpAnyH _ _ _ _ _ _ #[tt,tt,tt,tt,tt,tt,tt,tt,ff,ff,ff] _ _
        refine wpAnyH_ready (rs := [8]) (by kernel_rfl) (by simp) ?_
        refine (AllReadyH.cons rfl (fun K hK => ?_) AllReadyH.nil)
        go_simp
        refine (HTK.out _ (HQZ.out.trans (HQ.out.trans hS))).mono ?_
        rintro e yR1x9 ⟨rfl, hq⟩
        try (go_wp2_with fail)
        have hS2 := Q.trans hS hq
        refine hK.out _ _ (by exact hS2) (fun hHeld => ?_)
        clear hK K hHeld hS hq
        have hS := hS2
        clear hS2
        try simp only [Act.put, sA, sB, sC]
        change wpAnyH _ _ _ _ _ _ #[tt,tt,tt,tt,tt,tt,tt,tt,tt,ff,ff] _ _
        refine wpAnyH_take (i := 9) (v := ?vR1x10) rfl (by kernel_rfl) (by kernel_rfl) (by kernel_rfl) (by exact fun _ _ _ h => h) (Or.inl ⟨by first | kernel_rfl | rfl, ?hyR1x10⟩) (by exact hS) ?rsR1x10
        case hyR1x10 => (intro uz hSw; (try dsimp only at hSw); go_simp; try with_reducible rfl)
        try simp only [Act.put, sA, sB, sC]
        change wpAnyH _ _ _ _ _ _ #[tt,tt,tt,tt,tt,tt,tt,tt,tt,tt,ff] _ _
        refine wpAnyH_take (i := 10) (v := ?vR1x11) rfl (by kernel_rfl) (by kernel_rfl) (by kernel_rfl) (by exact fun _ _ _ h => h) (Or.inl ⟨by first | kernel_rfl | rfl, ?hyR1x11⟩) (by exact hS) ?rsR1x11
        case hyR1x11 => (intro uz hSw; (try dsimp only at hSw); go_simp; try with_reducible rfl)
        try simp only [Act.put, sA, sB, sC]
        change wpAnyH _ _ _ _ _ _ #[tt,tt,tt,tt,tt,tt,tt,tt,tt,tt,tt] _ _
        refine wpAnyH_done (by kernel_rfl) ?_ _
        have HQ5 := Lib.hid (HQ.out.trans hS)
        have HO5 := Lib.hid (HOK.out.q hS)
        clear hS
        go_wp2_with fail
        exact ⟨⟨k + 1, by go_num, by have := HKB.out; omega, ⟨_, rfl, Lib.hid (by rw [HAT.out, HSK.out, bs_cat]; simp [Lm.atx])⟩, Lib.hid (by rw [HAT.out]; exact HO5.out), HQ5.out⟩, by simp [intOf]; have := HKB.out; omega⟩
    · have hnlt : ¬ (k : Int) < (n : Int) := by omega
      obtain rfl : k = n := by omega
      have HQF := Lib.hid (HQZ.out.trans hq)
      clear hq hlt
      by_cases he : (F k).2 = []
      · have hS : S = ⟨#[]⟩ := by rw [HSK.out, he]; rfl
        subst hS
        have HR := Lib.hid (show Pb.LstP wr (.slice oa f oc) RP by
          rw [HE.out, he]
          have h := HOK.out.lst
          simpa [tx1] using h)
        clear he
        go_wp2_with fail
        go_ret
        exact ⟨_, rfl, HR.out, HQF.out⟩
      · have hne : S.toList.isEmpty = false := by
            have h1 := bs_ne he
            rw [HSK.out]
            unfold Lm.bs
            cases h2 : (⟨((F k).2).toArray⟩ : ByteArray).toList with
            | nil => rw [h2] at h1; simp at h1
            | cons y ys => rfl
        have HE1 := Lib.hid he
        clear he
        go_wp2_with (at_builtin; refine Pb.push elT HOK.out rfl _ _ rfl false S (by rfl) (by rfl) (by rw [← HFL.out]; omega) hqle ?_)
        intro v' w3 ho3 hg3 hat3
        have HQ3 := Lib.hid (HQZ.out.trans (HQ.out.grown hg3 (fun j h => (HOK.out.lt j h).1)))
        have HR := Lib.hid (show Pb.LstP w3 v' RP by
          rw [HE.out]
          have h1 : tx1 (F k).2 = [((false, S.data.toList) : Pb.E)] := by
            rw [HSK.out, Lm.bs_list]; unfold tx1; rw [if_neg (by simpa using HE1.out)]
          rw [h1]; exact ho3.lst)
        clear ho3 hg3 hat3
        go_wp2_with fail
        go_ret
        exact ⟨_, rfl, HR.out, HQ3.out⟩
end Ro
end Go.Proofs.YtnlfeamhedihpaaGreatDoor
