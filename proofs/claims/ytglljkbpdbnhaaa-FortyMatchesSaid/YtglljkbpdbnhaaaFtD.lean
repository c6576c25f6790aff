/- The name that is nearest to a tag. -/
import Derived.Test.YtglljkbpdbnhaaaRows
import Derived.Test.YtglljkbpdbnhaaaInts
import Derived.Test.YtglljkbpdbnhaaaUtfM
import Derived.Test.YtglljkbpdbnhaaaGap
import Derived.Test.YtglljkbpdbnhaaaEls
import Derived.Test.YtglljkbpdbnhaaaBlk
import Derived.Test.YtglljkbpdbnhaaaRng
import Derived.Test.YtglljkbpdbnhaaaRng2
import Derived.Test.YtglljkbpdbnhaaaFtM
import Derived.Test.YtglljkbpdbnhaaaFtA
import Derived.Test.YtglljkbpdbnhaaaFtB
import Derived.Test.YtglljkbpdbnhaaaCutS
import Derived.OrdersIn
import Derived.Deep.Cut
import Derived.OwnWalkIn
import Derived.TacticsInMore
import Derived.LoopNIn
import Derived.LoopIn
set_option linter.unusedVariables false
set_option linter.unusedSimpArgs false
namespace Go.Proofs.Ytglljkbpdbnhaaa
open Go.RowKit Go.Shelf Um
attribute [local go_sem] Oper.semAt_some
namespace Ft

theorem emp_emp : (Lm.bs []).toList.isEmpty = true := by decide +kernel
theorem bs_emp {l : List UInt8} (h : l ≠ []) : (Lm.bs l).toList.isEmpty = false := by
  rw [ByteArray.toList_eq, Lm.bs_list]
  cases l with
  | nil => exact absurd rfl h
  | cons a l => rfl
def me (s : ByteArray) : Int := if Fm.mt s.data.toList = [] then 7 else 0
theorem one_gap (u : World) (b : Nat) (v : Value) : Gap b (b + 1) u (u.setCell ⟨b, 0, none⟩ v) := Gap.setCell u b 0 v b (b + 1) (Nat.le_refl _) (Nat.lt_succ_self _)
theorem put_gap (u : World) (b : Nat) (o : Obj) : Gap b (b + 1) u (u.putObj b o) := Gap.putObj u b o b (b + 1) (Nat.le_refl _) (Nat.lt_succ_self _)
set_option maxRecDepth 100000 in
set_option maxHeartbeats 2000000 in
theorem match_any (s : ByteArray) (w : World) (hs : s.size ≤ 1000000) :
    Calls Try.prog 13 #[.string s] w fun e w' => e = .returned (.tuple #[.string (Lm.bs (Fm.mt s.data.toList)), .int .i64 (me s)]) ∧ Q w w' := by
  obtain ⟨t, ht⟩ : ∃ t, t = Fm.lng s.data.toList := ⟨_, rfl⟩
  have HT := Lib.hid ht
  have HLT := Lib.hid (fun u => Sc.language_any s u hs)
  rw [← ht] at HLT
  clear ht
  refine (callsIn_wide (n := 0)).1 ?_
  refine callsIn_of_wp_marks Try.func13 rfl trivial ?_ rfl
  simp only [Try.ntmps13, List.size_toArray, List.length_cons, List.length_nil, Nat.reduceAdd, Nat.reduceSub, Array.replicate_succ, Array.replicate_zero, List.push_toArray, List.append_toArray, List.nil_append, List.cons_append]
  gi_wp2_with fail
  refine ⟨trivial, rfl, (callsIn_wide.2 (all_any _)).mono ?_⟩
  rintro e w' ⟨rfl, hw'⟩
  have b0 : Bk (w.alloc (.cells #[.string s] 9)) w.heap.size 9 [.string s] := Bk.new _ _ _
  have b0 := b0.q ((Q.refl _).alloc (.cells #[.string ⟨#[]⟩] 9))
  have b0 := b0.q ((Q.refl _).alloc (.cells #[.int .i64 0] 30))
  have b0 := b0.q ((Q.refl _).alloc (.cells #[.string ⟨#[]⟩] 9))
  have b1 : Bk ((w.alloc (.cells #[.string s] 9)).alloc (.cells #[.string ⟨#[]⟩] 9)) (w.alloc (.cells #[.string s] 9)).heap.size 9 [.string ⟨#[]⟩] := Bk.new _ _ _
  have b1 := b1.q ((Q.refl _).alloc (.cells #[.int .i64 0] 30))
  have b1 := b1.q ((Q.refl _).alloc (.cells #[.string ⟨#[]⟩] 9))
  have b2 : Bk (((w.alloc (.cells #[.string s] 9)).alloc (.cells #[.string ⟨#[]⟩] 9)).alloc (.cells #[.int .i64 0] 30)) ((w.alloc (.cells #[.string s] 9)).alloc (.cells #[.string ⟨#[]⟩] 9)).heap.size 30 [.int .i64 0] := Bk.new _ _ _
  have b2 := b2.q ((Q.refl _).alloc (.cells #[.string ⟨#[]⟩] 9))
  have b3 : Bk ((((w.alloc (.cells #[.string s] 9)).alloc (.cells #[.string ⟨#[]⟩] 9)).alloc (.cells #[.int .i64 0] 30)).alloc (.cells #[.string ⟨#[]⟩] 9)) (((w.alloc (.cells #[.string s] 9)).alloc (.cells #[.string ⟨#[]⟩] 9)).alloc (.cells #[.int .i64 0] 30)).heap.size 9 [.string ⟨#[]⟩] := Bk.new _ _ _
  have hq0 : Q w ((((w.alloc (.cells #[.string s] 9)).alloc (.cells #[.string ⟨#[]⟩] 9)).alloc (.cells #[.int .i64 0] 30)).alloc (.cells #[.string ⟨#[]⟩] 9)) := ((((Q.refl w).alloc _).alloc _).alloc _).alloc _
  have hz0 : ((((w.alloc (.cells #[.string s] 9)).alloc (.cells #[.string ⟨#[]⟩] 9)).alloc (.cells #[.int .i64 0] 30)).alloc (.cells #[.string ⟨#[]⟩] 9)).heap.size = w.heap.size + 4 := by simp
  rw [← hw'] at b0 b1 b2 b3 hq0 hz0
  simp only [World.size_alloc] at b1 b2 b3
  clear hw'
  gi_wp2_with fail
  try simp only [World.size_alloc]
  have hz1 : w'.heap.size ≤ w.heap.size + 4 := by omega
  have hz2 : w.heap.size + 4 ≤ w'.heap.size := by omega
  clear hz0
  refine range_any (gf := 19) (lb := #[]) rfl (enters_of Try.func19 (by kernel_rfl) rfl) (fun _ => rfl)
    (all_iter (w'.heap.size + 1 + 1) w') (by unfold SetR; omega) (by omega)
    (fun pre W => (∃ k, k ≤ 40 ∧ pre = List.range k ∧ Fm.fnd s.data.toList k < 0 ∧ Bk W (w.heap.size + 1 + 1 + 1) 9 [.string (Lm.bs (Fm.fstL t k))]) ∧ Bk W (w.heap.size) 9 [.string s] ∧ Bk W (w.heap.size + 1) 9 [.string ⟨#[]⟩] ∧ Bk W (w.heap.size + 1 + 1) 30 [.int .i64 0] ∧ Q w W)
    (fun c pre W => c = .ret ∧ 0 ≤ Fm.fnd s.data.toList 40 ∧ Bk W (w.heap.size + 1) 9 [.string s] ∧ Bk W (w.heap.size + 1 + 1) 30 [.int .i64 0] ∧ Q w W)
    ?hI ?hIx ⟨⟨0, by omega, rfl, (by decide : (-1 : Int) < 0), b3⟩, b0, b1, b2, hq0⟩
    (fun x => { tmps := #[.string s, .pointer (some ⟨w.heap.size, 0, none⟩), .pointer (some ⟨w.heap.size + 1, 0, none⟩), .pointer (some ⟨w.heap.size + 1 + 1, 0, none⟩), .pointer (some ⟨w.heap.size + 1 + 1 + 1, 0, none⟩), .string (Lm.bs (Fm.T x).nam), .func (.func 19) #[] #[], .string (Lm.bs (Fm.T x).nam), rV (Fm.T x), undef, undef, undef, undef, undef, undef, undef, undef, undef, undef, undef, undef, undef, undef, undef, undef, undef], defers := [] }) ?assign ?body ?done ?stop
  case hI =>
    rintro pre A A' ⟨⟨k, h4, h5, h6, h0⟩, h1, h2, h3, hq⟩ hg
    exact ⟨⟨k, h4, h5, h6, bk_gap h0 hg (.inl (by omega))⟩, bk_gap h1 hg (.inl (by omega)), bk_gap h2 hg (.inl (by omega)), bk_gap h3 hg (.inl (by omega)), hq.gapped hg (by omega)⟩
  case hIx =>
    rintro c pre A A' ⟨hc, hf, h2, h3, hq⟩ hg
    exact ⟨hc, hf, bk_gap h2 hg (.inl (by omega)), bk_gap h3 hg (.inl (by omega)), hq.gapped hg (by omega)⟩
  case assign =>
    intro l x W K hK
    gi_wp2
    first | exact hK | simpa using hK
  case body =>
    rintro l pre x W ⟨⟨k, hk, rfl, hf, h0⟩, h1, h2, h3, hq⟩ hz ⟨j, hj, hjr⟩
    obtain ⟨rfl, rfl⟩ := range_snoc hjr
    have HF := Lib.hid hf
    have HQ := Lib.hid hq
    have H0 := Lib.hid h0
    have H1 := Lib.hid h1
    have H2 := Lib.hid h2
    have H3 := Lib.hid h3
    have cs := h1.cell 0 rfl
    obtain ⟨n, hn⟩ : ∃ n, n = Lm.bs (Fm.T x).nam := ⟨_, rfl⟩
    have HN := Lib.hid hn
    rw [← hn]
    have c2 := h2.cell 0 rfl
    have f2 := h2.free 0
    have c3 := h3.cell 0 rfl
    have f3 := h3.free 0
    clear hf hq h1 hjr h0 h2 h3
    by_cases he : n = s
    · have hfin : (x : Int) = Fm.fnd s.data.toList 40 := by
        have h1 : Fm.fnd s.data.toList (x + 1) = x := Fm.fnd_hit HF.out (by rw [← he, HN.out, Lm.bs_list]; rfl)
        rw [← h1]; exact (Fm.fnd_stay (by omega) 40 (by omega)).symm
      have HG := Lib.hid hfin
      subst he
      clear hfin hn
      gi_wp2_with fail
      refine ⟨(gap_stand (one_gap W (w.heap.size + 1) _) ?_).trans (gap_stand (one_gap _ (w.heap.size + 1 + 1) _) ?_), rfl, by rw [← HG.out]; omega, ?_, ?_, ?_⟩
      · intro k hk; simp only [SetR] at hk; omega
      · intro k hk; simp only [SetR] at hk; omega
      · exact bk_gap (H2.out.set 0 _) (one_gap _ (w.heap.size + 1 + 1) _) (.inl (by omega))
      · exact (bk_gap H3.out (one_gap W (w.heap.size + 1) _) (.inr (by omega))).set 0 _
      · exact (HQ.out.gapped (one_gap W (w.heap.size + 1) _) (by omega)).gapped (one_gap _ (w.heap.size + 1 + 1) _) (by omega)
    · have hne := str_ne he
      have HG := Lib.hid (show Fm.fnd s.data.toList (x + 1) < 0 from Fm.fnd_miss HF.out (fun h => he (by
        rw [HN.out]; exact Fm.bs_of h)))
      have HL := Lib.hid (fun u => Sc.language_any (Lm.bs (Fm.T x).nam) u (by rw [Lm.bs_size]; have := (Fm.nam_ne x (by omega)).2.1; unfold Fm.nam at this; omega))
      rw [Lm.bs_list, ← hn] at HL
      have HLN := Lib.hid (show Fm.lng (Fm.T x).nam = Fm.lng (Fm.nam x) from rfl)
      rw [HLN.out] at HL
      have HNN : Hid (n = Lm.bs (Fm.nam x)) := Lib.hid hn
      clear he hn c2 f2 c3 f3
      gi_wp2_with fail
      refine wpIn_region_any (by kernel_rfl) ?_
      obtain ⟨z, hz⟩ : ∃ z, z = ({ W with drawn := W.drawn + 1 } : World) := ⟨_, rfl⟩
      rw [← hz]
      have HQz := Lib.hid (show Q W z by rw [hz]; exact (Q.refl W).drew)
      clear hz
      have c4 := (H0.out.q HQz.out).cell 0 rfl
      have c1 := (H1.out.q HQz.out).cell 0 rfl
      obtain ⟨y, hyy⟩ : ∃ y, y = Lm.bs (Fm.fstL t x) := ⟨_, rfl⟩
      rw [← hyy] at c4
      have HY := Lib.hid hyy
      clear hyy
      by_cases hy : Fm.fstL t x = []
      · have e1 : y.toList.isEmpty = true := by rw [HY.out, hy]; exact emp_emp
        have e2 : y.toList = [] := by rw [HY.out, hy, ByteArray.toList_eq]; rfl
        by_cases he2 : Fm.lng (Fm.nam x) = t
        · have HFX := Lib.hid (show Lm.bs (Fm.fstL t (x + 1)) = n by rw [Fm.fstL_hit hy he2, HNN.out])
          rw [he2] at HL
          clear hy he2
          refine wpAnyIn_ready (rs := [0]) (by kernel_rfl) (by simp) ?_
          refine AllReadyIn.cons rfl (fun K hK => ?_) AllReadyIn.nil
          go_simp
          refine hK _ _ ?_
          clear hK K
          refine wpAnyIn_ready (rs := [1]) (by kernel_rfl) (by simp) ?_
          refine AllReadyIn.cons rfl (fun K hK => ?_) AllReadyIn.nil
          go_simp
          refine hK _ _ ?_
          clear hK K
          refine wpAnyIn_ready (rs := [2]) (by kernel_rfl) (by simp) ?_
          refine AllReadyIn.cons rfl (fun K hK => ?_) AllReadyIn.nil
          go_simp
          refine hK _ _ ?_
          clear hK K
          refine wpAnyIn_ready (rs := [3, 5]) (by kernel_rfl) (by simp) ?_
          refine AllReadyIn.cons rfl (fun K hK => ?_) (AllReadyIn.cons rfl (fun K hK => ?_) AllReadyIn.nil)
          · go_simp
            refine hK _ _ ?_
            clear hK K
            refine wpAnyIn_ready (rs := [4, 5]) (by kernel_rfl) (by simp) ?_
            refine AllReadyIn.cons rfl (fun K hK => ?_) (AllReadyIn.cons rfl (fun K hK => ?_) AllReadyIn.nil)
            · go_simp
              refine ⟨trivial, rfl, CallsIn.inRound l ((callsIn_wide.2 (HL.out z)).mono ?_)⟩
              rintro e z1 ⟨rfl, hq⟩
              have HQz1 := Lib.hid (HQz.out.trans hq)
              clear hq
              have c1 := (H1.out.q HQz1.out).cell 0 rfl
              refine hK _ _ ?_
              clear hK K
              refine wpAnyIn_ready (rs := [5]) (by kernel_rfl) (by simp) ?_
              refine AllReadyIn.cons rfl (fun K hK => ?_) AllReadyIn.nil
              go_simp
              refine hK _ _ ?_
              clear hK K
              refine wpAnyIn_ready (rs := [6]) (by kernel_rfl) (by simp) ?_
              refine AllReadyIn.cons rfl (fun K hK => ?_) AllReadyIn.nil
              go_simp
              refine ⟨trivial, rfl, CallsIn.inRound l ((callsIn_wide.2 (HLT.out z1)).mono ?_)⟩
              rintro e z2 ⟨rfl, hq⟩
              have HQz2 := Lib.hid (HQz1.out.trans hq)
              clear hq
              have c1 := (H1.out.q HQz2.out).cell 0 rfl
              refine hK _ _ ?_
              clear hK K
              refine wpAnyIn_ready (rs := [7]) (by kernel_rfl) (by simp) ?_
              refine AllReadyIn.cons rfl (fun K hK => ?_) AllReadyIn.nil
              go_simp
              refine hK _ _ ?_
              clear hK K
              refine wpAnyIn_ready (rs := [8]) (by kernel_rfl) (by simp) ?_
              refine AllReadyIn.cons rfl (fun K hK => ?_) AllReadyIn.nil
              go_simp
              refine hK _ _ ?_
              clear hK K
              refine wpAnyIn_done (by kernel_rfl) ?_ _
              have c4 := (H0.out.q HQz2.out).cell 0 rfl
              have f4 := (H0.out.q HQz2.out).free 0
              gi_wp2_with fail
              refine ⟨(HQz2.out.stand _).trans (gap_stand (one_gap z2 (w.heap.size + 1 + 1 + 1) _) ?_), ⟨x + 1, by omega, range_add x, HG.out, ?_⟩, bk_gap (H1.out.q HQz2.out) (one_gap z2 (w.heap.size + 1 + 1 + 1) _) (.inl (by omega)), bk_gap (H2.out.q HQz2.out) (one_gap z2 (w.heap.size + 1 + 1 + 1) _) (.inl (by omega)), bk_gap (H3.out.q HQz2.out) (one_gap z2 (w.heap.size + 1 + 1 + 1) _) (.inl (by omega)), (HQ.out.trans HQz2.out).gapped (one_gap z2 (w.heap.size + 1 + 1 + 1) _) (by omega)⟩
              · intro k hk; simp only [SetR] at hk; omega
              · rw [HFX.out]; exact (H0.out.q HQz2.out).set 0 _
            · go_simp
              refine hK _ _ ?_
              clear hK K
              refine wpAnyIn_ready (rs := [4]) (by kernel_rfl) (by simp) ?_
              refine AllReadyIn.cons rfl (fun K hK => ?_) AllReadyIn.nil
              go_simp
              refine ⟨trivial, rfl, CallsIn.inRound l ((callsIn_wide.2 (HL.out z)).mono ?_)⟩
              rintro e z3 ⟨rfl, hq⟩
              have HQz3 := Lib.hid (HQz.out.trans hq)
              clear hq
              have c1 := (H1.out.q HQz3.out).cell 0 rfl
              refine hK _ _ ?_
              clear hK K
              refine wpAnyIn_ready (rs := [6]) (by kernel_rfl) (by simp) ?_
              refine AllReadyIn.cons rfl (fun K hK => ?_) AllReadyIn.nil
              go_simp
              refine ⟨trivial, rfl, CallsIn.inRound l ((callsIn_wide.2 (HLT.out z3)).mono ?_)⟩
              rintro e z4 ⟨rfl, hq⟩
              have HQz4 := Lib.hid (HQz3.out.trans hq)
              clear hq
              have c1 := (H1.out.q HQz4.out).cell 0 rfl
              refine hK _ _ ?_
              clear hK K
              refine wpAnyIn_ready (rs := [7]) (by kernel_rfl) (by simp) ?_
              refine AllReadyIn.cons rfl (fun K hK => ?_) AllReadyIn.nil
              go_simp
              refine hK _ _ ?_
              clear hK K
              refine wpAnyIn_ready (rs := [8]) (by kernel_rfl) (by simp) ?_
              refine AllReadyIn.cons rfl (fun K hK => ?_) AllReadyIn.nil
              go_simp
              refine hK _ _ ?_
              clear hK K
              refine wpAnyIn_done (by kernel_rfl) ?_ _
              have c4 := (H0.out.q HQz4.out).cell 0 rfl
              have f4 := (H0.out.q HQz4.out).free 0
              gi_wp2_with fail
              refine ⟨(HQz4.out.stand _).trans (gap_stand (one_gap z4 (w.heap.size + 1 + 1 + 1) _) ?_), ⟨x + 1, by omega, range_add x, HG.out, ?_⟩, bk_gap (H1.out.q HQz4.out) (one_gap z4 (w.heap.size + 1 + 1 + 1) _) (.inl (by omega)), bk_gap (H2.out.q HQz4.out) (one_gap z4 (w.heap.size + 1 + 1 + 1) _) (.inl (by omega)), bk_gap (H3.out.q HQz4.out) (one_gap z4 (w.heap.size + 1 + 1 + 1) _) (.inl (by omega)), (HQ.out.trans HQz4.out).gapped (one_gap z4 (w.heap.size + 1 + 1 + 1) _) (by omega)⟩
              · intro k hk; simp only [SetR] at hk; omega
              · rw [HFX.out]; exact (H0.out.q HQz4.out).set 0 _
          · go_simp
            refine hK _ _ ?_
            clear hK K
            refine wpAnyIn_ready (rs := [3]) (by kernel_rfl) (by simp) ?_
            refine AllReadyIn.cons rfl (fun K hK => ?_) AllReadyIn.nil
            go_simp
            refine hK _ _ ?_
            clear hK K
            refine wpAnyIn_ready (rs := [4]) (by kernel_rfl) (by simp) ?_
            refine AllReadyIn.cons rfl (fun K hK => ?_) AllReadyIn.nil
            go_simp
            refine ⟨trivial, rfl, CallsIn.inRound l ((callsIn_wide.2 (HL.out z)).mono ?_)⟩
            rintro e z5 ⟨rfl, hq⟩
            have HQz5 := Lib.hid (HQz.out.trans hq)
            clear hq
            have c1 := (H1.out.q HQz5.out).cell 0 rfl
            refine hK _ _ ?_
            clear hK K
            refine wpAnyIn_ready (rs := [6]) (by kernel_rfl) (by simp) ?_
            refine AllReadyIn.cons rfl (fun K hK => ?_) AllReadyIn.nil
            go_simp
            refine ⟨trivial, rfl, CallsIn.inRound l ((callsIn_wide.2 (HLT.out z5)).mono ?_)⟩
            rintro e z6 ⟨rfl, hq⟩
            have HQz6 := Lib.hid (HQz5.out.trans hq)
            clear hq
            have c1 := (H1.out.q HQz6.out).cell 0 rfl
            refine hK _ _ ?_
            clear hK K
            refine wpAnyIn_ready (rs := [7]) (by kernel_rfl) (by simp) ?_
            refine AllReadyIn.cons rfl (fun K hK => ?_) AllReadyIn.nil
            go_simp
            refine hK _ _ ?_
            clear hK K
            refine wpAnyIn_ready (rs := [8]) (by kernel_rfl) (by simp) ?_
            refine AllReadyIn.cons rfl (fun K hK => ?_) AllReadyIn.nil
            go_simp
            refine hK _ _ ?_
            clear hK K
            refine wpAnyIn_done (by kernel_rfl) ?_ _
            have c4 := (H0.out.q HQz6.out).cell 0 rfl
            have f4 := (H0.out.q HQz6.out).free 0
            gi_wp2_with fail
            refine ⟨(HQz6.out.stand _).trans (gap_stand (one_gap z6 (w.heap.size + 1 + 1 + 1) _) ?_), ⟨x + 1, by omega, range_add x, HG.out, ?_⟩, bk_gap (H1.out.q HQz6.out) (one_gap z6 (w.heap.size + 1 + 1 + 1) _) (.inl (by omega)), bk_gap (H2.out.q HQz6.out) (one_gap z6 (w.heap.size + 1 + 1 + 1) _) (.inl (by omega)), bk_gap (H3.out.q HQz6.out) (one_gap z6 (w.heap.size + 1 + 1 + 1) _) (.inl (by omega)), (HQ.out.trans HQz6.out).gapped (one_gap z6 (w.heap.size + 1 + 1 + 1) _) (by omega)⟩
            · intro k hk; simp only [SetR] at hk; omega
            · rw [HFX.out]; exact (H0.out.q HQz6.out).set 0 _
        · have hne2 : ((Lm.bs (Fm.lng (Fm.nam x))).toList == (Lm.bs t).toList) = false := str_ne (fun h => he2 (by
            have := congrArg (fun x : ByteArray => x.data.toList) h
            simpa only [Lm.bs_list] using this))
          have HFX := Lib.hid (show Fm.fstL t (x + 1) = Fm.fstL t x from Fm.fstL_miss (fun h => he2 h.2))
          obtain ⟨q, hqq⟩ : ∃ q, q = Lm.bs (Fm.lng (Fm.nam x)) := ⟨_, rfl⟩
          rw [← hqq] at HL hne2
          clear hqq hy he2
          refine wpAnyIn_ready (rs := [0]) (by kernel_rfl) (by simp) ?_
          refine AllReadyIn.cons rfl (fun K hK => ?_) AllReadyIn.nil
          go_simp
          refine hK _ _ ?_
          clear hK K
          refine wpAnyIn_ready (rs := [1]) (by kernel_rfl) (by simp) ?_
          refine AllReadyIn.cons rfl (fun K hK => ?_) AllReadyIn.nil
          go_simp
          refine hK _ _ ?_
          clear hK K
          refine wpAnyIn_ready (rs := [2]) (by kernel_rfl) (by simp) ?_
          refine AllReadyIn.cons rfl (fun K hK => ?_) AllReadyIn.nil
          go_simp
          refine hK _ _ ?_
          clear hK K
          refine wpAnyIn_ready (rs := [3, 5]) (by kernel_rfl) (by simp) ?_
          refine AllReadyIn.cons rfl (fun K hK => ?_) (AllReadyIn.cons rfl (fun K hK => ?_) AllReadyIn.nil)
          · go_simp
            refine hK _ _ ?_
            clear hK K
            refine wpAnyIn_ready (rs := [4, 5]) (by kernel_rfl) (by simp) ?_
            refine AllReadyIn.cons rfl (fun K hK => ?_) (AllReadyIn.cons rfl (fun K hK => ?_) AllReadyIn.nil)
            · go_simp
              refine ⟨trivial, rfl, CallsIn.inRound l ((callsIn_wide.2 (HL.out z)).mono ?_)⟩
              rintro e z7 ⟨rfl, hq⟩
              have HQz7 := Lib.hid (HQz.out.trans hq)
              clear hq
              have c1 := (H1.out.q HQz7.out).cell 0 rfl
              refine hK _ _ ?_
              clear hK K
              refine wpAnyIn_ready (rs := [5]) (by kernel_rfl) (by simp) ?_
              refine AllReadyIn.cons rfl (fun K hK => ?_) AllReadyIn.nil
              go_simp
              refine hK _ _ ?_
              clear hK K
              refine wpAnyIn_ready (rs := [6]) (by kernel_rfl) (by simp) ?_
              refine AllReadyIn.cons rfl (fun K hK => ?_) AllReadyIn.nil
              go_simp
              refine ⟨trivial, rfl, CallsIn.inRound l ((callsIn_wide.2 (HLT.out z7)).mono ?_)⟩
              rintro e z8 ⟨rfl, hq⟩
              have HQz8 := Lib.hid (HQz7.out.trans hq)
              clear hq
              have c1 := (H1.out.q HQz8.out).cell 0 rfl
              refine hK _ _ ?_
              clear hK K
              refine wpAnyIn_ready (rs := [7]) (by kernel_rfl) (by simp) ?_
              refine AllReadyIn.cons rfl (fun K hK => ?_) AllReadyIn.nil
              go_simp
              refine hK _ _ ?_
              clear hK K
              refine wpAnyIn_ready (rs := [8]) (by kernel_rfl) (by simp) ?_
              refine AllReadyIn.cons rfl (fun K hK => ?_) AllReadyIn.nil
              go_simp
              refine hK _ _ ?_
              clear hK K
              refine wpAnyIn_done (by kernel_rfl) ?_ _
              gi_wp2_with fail
              exact ⟨HQz8.out.stand _, ⟨x + 1, by omega, range_add x, HG.out, by rw [HFX.out]; exact H0.out.q HQz8.out⟩, H1.out.q HQz8.out, H2.out.q HQz8.out, H3.out.q HQz8.out, HQ.out.trans HQz8.out⟩
            · go_simp
              refine hK _ _ ?_
              clear hK K
              refine wpAnyIn_ready (rs := [4]) (by kernel_rfl) (by simp) ?_
              refine AllReadyIn.cons rfl (fun K hK => ?_) AllReadyIn.nil
              go_simp
              refine ⟨trivial, rfl, CallsIn.inRound l ((callsIn_wide.2 (HL.out z)).mono ?_)⟩
              rintro e z9 ⟨rfl, hq⟩
              have HQz9 := Lib.hid (HQz.out.trans hq)
              clear hq
              have c1 := (H1.out.q HQz9.out).cell 0 rfl
              refine hK _ _ ?_
              clear hK K
              refine wpAnyIn_ready (rs := [6]) (by kernel_rfl) (by simp) ?_
              refine AllReadyIn.cons rfl (fun K hK => ?_) AllReadyIn.nil
              go_simp
              refine ⟨trivial, rfl, CallsIn.inRound l ((callsIn_wide.2 (HLT.out z9)).mono ?_)⟩
              rintro e z10 ⟨rfl, hq⟩
              have HQz10 := Lib.hid (HQz9.out.trans hq)
              clear hq
              have c1 := (H1.out.q HQz10.out).cell 0 rfl
              refine hK _ _ ?_
              clear hK K
              refine wpAnyIn_ready (rs := [7]) (by kernel_rfl) (by simp) ?_
              refine AllReadyIn.cons rfl (fun K hK => ?_) AllReadyIn.nil
              go_simp
              refine hK _ _ ?_
              clear hK K
              refine wpAnyIn_ready (rs := [8]) (by kernel_rfl) (by simp) ?_
              refine AllReadyIn.cons rfl (fun K hK => ?_) AllReadyIn.nil
              go_simp
              refine hK _ _ ?_
              clear hK K
              refine wpAnyIn_done (by kernel_rfl) ?_ _
              gi_wp2_with fail
              exact ⟨HQz10.out.stand _, ⟨x + 1, by omega, range_add x, HG.out, by rw [HFX.out]; exact H0.out.q HQz10.out⟩, H1.out.q HQz10.out, H2.out.q HQz10.out, H3.out.q HQz10.out, HQ.out.trans HQz10.out⟩
          · go_simp
            refine hK _ _ ?_
            clear hK K
            refine wpAnyIn_ready (rs := [3]) (by kernel_rfl) (by simp) ?_
            refine AllReadyIn.cons rfl (fun K hK => ?_) AllReadyIn.nil
            go_simp
            refine hK _ _ ?_
            clear hK K
            refine wpAnyIn_ready (rs := [4]) (by kernel_rfl) (by simp) ?_
            refine AllReadyIn.cons rfl (fun K hK => ?_) AllReadyIn.nil
            go_simp
            refine ⟨trivial, rfl, CallsIn.inRound l ((callsIn_wide.2 (HL.out z)).mono ?_)⟩
            rintro e z11 ⟨rfl, hq⟩
            have HQz11 := Lib.hid (HQz.out.trans hq)
            clear hq
            have c1 := (H1.out.q HQz11.out).cell 0 rfl
            refine hK _ _ ?_
            clear hK K
            refine wpAnyIn_ready (rs := [6]) (by kernel_rfl) (by simp) ?_
            refine AllReadyIn.cons rfl (fun K hK => ?_) AllReadyIn.nil
            go_simp
            refine ⟨trivial, rfl, CallsIn.inRound l ((callsIn_wide.2 (HLT.out z11)).mono ?_)⟩
            rintro e z12 ⟨rfl, hq⟩
            have HQz12 := Lib.hid (HQz11.out.trans hq)
            clear hq
            have c1 := (H1.out.q HQz12.out).cell 0 rfl
            refine hK _ _ ?_
            clear hK K
            refine wpAnyIn_ready (rs := [7]) (by kernel_rfl) (by simp) ?_
            refine AllReadyIn.cons rfl (fun K hK => ?_) AllReadyIn.nil
            go_simp
            refine hK _ _ ?_
            clear hK K
            refine wpAnyIn_ready (rs := [8]) (by kernel_rfl) (by simp) ?_
            refine AllReadyIn.cons rfl (fun K hK => ?_) AllReadyIn.nil
            go_simp
            refine hK _ _ ?_
            clear hK K
            refine wpAnyIn_done (by kernel_rfl) ?_ _
            gi_wp2_with fail
            exact ⟨HQz12.out.stand _, ⟨x + 1, by omega, range_add x, HG.out, by rw [HFX.out]; exact H0.out.q HQz12.out⟩, H1.out.q HQz12.out, H2.out.q HQz12.out, H3.out.q HQz12.out, HQ.out.trans HQz12.out⟩
      · have e1 : y.toList.isEmpty = false := by rw [HY.out]; exact bs_emp hy
        have e2 : ¬ y.toList = [] := by rw [HY.out, ByteArray.toList_eq, Lm.bs_list]; exact hy
        have HFX := Lib.hid (show Fm.fstL t (x + 1) = Fm.fstL t x from Fm.fstL_miss (fun h => hy h.1))
        clear hy
        refine wpAnyIn_ready (rs := [0]) (by kernel_rfl) (by simp) ?_
        refine AllReadyIn.cons rfl (fun K hK => ?_) AllReadyIn.nil
        go_simp
        refine hK _ _ ?_
        clear hK K
        refine wpAnyIn_ready (rs := [1]) (by kernel_rfl) (by simp) ?_
        refine AllReadyIn.cons rfl (fun K hK => ?_) AllReadyIn.nil
        go_simp
        refine hK _ _ ?_
        clear hK K
        refine wpAnyIn_ready (rs := [2]) (by kernel_rfl) (by simp) ?_
        refine AllReadyIn.cons rfl (fun K hK => ?_) AllReadyIn.nil
        go_simp
        refine hK _ _ ?_
        clear hK K
        refine wpAnyIn_ready (rs := [3, 5]) (by kernel_rfl) (by simp) ?_
        refine AllReadyIn.cons rfl (fun K hK => ?_) (AllReadyIn.cons rfl (fun K hK => ?_) AllReadyIn.nil)
        · go_simp
          refine hK _ _ ?_
          clear hK K
          refine wpAnyIn_ready (rs := [4, 5]) (by kernel_rfl) (by simp) ?_
          refine AllReadyIn.cons rfl (fun K hK => ?_) (AllReadyIn.cons rfl (fun K hK => ?_) AllReadyIn.nil)
          · go_simp
            refine ⟨trivial, ?_⟩
            refine hK _ _ ?_
            clear hK K
            refine wpAnyIn_ready (rs := [5]) (by kernel_rfl) (by simp) ?_
            refine AllReadyIn.cons rfl (fun K hK => ?_) AllReadyIn.nil
            go_simp
            refine hK _ _ ?_
            clear hK K
            refine wpAnyIn_ready (rs := [6]) (by kernel_rfl) (by simp) ?_
            refine AllReadyIn.cons rfl (fun K hK => ?_) AllReadyIn.nil
            go_simp
            refine ⟨trivial, ?_⟩
            refine hK _ _ ?_
            clear hK K
            refine wpAnyIn_ready (rs := [7]) (by kernel_rfl) (by simp) ?_
            refine AllReadyIn.cons rfl (fun K hK => ?_) AllReadyIn.nil
            go_simp
            refine hK _ _ ?_
            clear hK K
            refine wpAnyIn_ready (rs := [8]) (by kernel_rfl) (by simp) ?_
            refine AllReadyIn.cons rfl (fun K hK => ?_) AllReadyIn.nil
            go_simp
            refine hK _ _ ?_
            clear hK K
            refine wpAnyIn_done (by kernel_rfl) ?_ _
            gi_wp2_with fail
            exact ⟨HQz.out.stand _, ⟨x + 1, by omega, range_add x, HG.out, by rw [HFX.out]; exact H0.out.q HQz.out⟩, H1.out.q HQz.out, H2.out.q HQz.out, H3.out.q HQz.out, HQ.out.trans HQz.out⟩
          · go_simp
            refine hK _ _ ?_
            clear hK K
            refine wpAnyIn_ready (rs := [4]) (by kernel_rfl) (by simp) ?_
            refine AllReadyIn.cons rfl (fun K hK => ?_) AllReadyIn.nil
            go_simp
            refine ⟨trivial, ?_⟩
            refine hK _ _ ?_
            clear hK K
            refine wpAnyIn_ready (rs := [6]) (by kernel_rfl) (by simp) ?_
            refine AllReadyIn.cons rfl (fun K hK => ?_) AllReadyIn.nil
            go_simp
            refine ⟨trivial, ?_⟩
            refine hK _ _ ?_
            clear hK K
            refine wpAnyIn_ready (rs := [7]) (by kernel_rfl) (by simp) ?_
            refine AllReadyIn.cons rfl (fun K hK => ?_) AllReadyIn.nil
            go_simp
            refine hK _ _ ?_
            clear hK K
            refine wpAnyIn_ready (rs := [8]) (by kernel_rfl) (by simp) ?_
            refine AllReadyIn.cons rfl (fun K hK => ?_) AllReadyIn.nil
            go_simp
            refine hK _ _ ?_
            clear hK K
            refine wpAnyIn_done (by kernel_rfl) ?_ _
            gi_wp2_with fail
            exact ⟨HQz.out.stand _, ⟨x + 1, by omega, range_add x, HG.out, by rw [HFX.out]; exact H0.out.q HQz.out⟩, H1.out.q HQz.out, H2.out.q HQz.out, H3.out.q HQz.out, HQ.out.trans HQz.out⟩
        · go_simp
          refine hK _ _ ?_
          clear hK K
          refine wpAnyIn_ready (rs := [3]) (by kernel_rfl) (by simp) ?_
          refine AllReadyIn.cons rfl (fun K hK => ?_) AllReadyIn.nil
          go_simp
          refine hK _ _ ?_
          clear hK K
          refine wpAnyIn_ready (rs := [4]) (by kernel_rfl) (by simp) ?_
          refine AllReadyIn.cons rfl (fun K hK => ?_) AllReadyIn.nil
          go_simp
          refine ⟨trivial, ?_⟩
          refine hK _ _ ?_
          clear hK K
          refine wpAnyIn_ready (rs := [6]) (by kernel_rfl) (by simp) ?_
          refine AllReadyIn.cons rfl (fun K hK => ?_) AllReadyIn.nil
          go_simp
          refine ⟨trivial, ?_⟩
          refine hK _ _ ?_
          clear hK K
          refine wpAnyIn_ready (rs := [7]) (by kernel_rfl) (by simp) ?_
          refine AllReadyIn.cons rfl (fun K hK => ?_) AllReadyIn.nil
          go_simp
          refine hK _ _ ?_
          clear hK K
          refine wpAnyIn_ready (rs := [8]) (by kernel_rfl) (by simp) ?_
          refine AllReadyIn.cons rfl (fun K hK => ?_) AllReadyIn.nil
          go_simp
          refine hK _ _ ?_
          clear hK K
          refine wpAnyIn_done (by kernel_rfl) ?_ _
          gi_wp2_with fail
          exact ⟨HQz.out.stand _, ⟨x + 1, by omega, range_add x, HG.out, by rw [HFX.out]; exact H0.out.q HQz.out⟩, H1.out.q HQz.out, H2.out.q HQz.out, H3.out.q HQz.out, HQ.out.trans HQz.out⟩
  case done =>
    rintro xs W rfl ⟨⟨k, hk, hk2, hf, h0⟩, h1, h2, h3, hq⟩ hK
    have hk3 := congrArg List.length hk2
    simp only [List.length_range] at hk3
    subst hk3
    have HM := Lib.hid (show Fm.mt s.data.toList = Fm.fstL t 40 by rw [HT.out]; exact if_neg (by omega))
    have HQ := Lib.hid hq
    have H2 := Lib.hid h2
    have H3 := Lib.hid h3
    have c4 := h0.cell 0 rfl
    have c2 := h2.cell 0 rfl
    have f2 := h2.free 0
    have c3 := h3.cell 0 rfl
    have f3 := h3.free 0
    obtain ⟨y, hyy⟩ : ∃ y, y = Lm.bs (Fm.fstL t 40) := ⟨_, rfl⟩
    rw [← hyy] at c4
    have HY := Lib.hid hyy
    clear hyy hf hk hk2 h1 hq h0 h2 h3
    by_cases hy : Fm.fstL t 40 = []
    · have e1 : y.toList.isEmpty = true := by rw [HY.out, hy]; exact emp_emp
      have e2 : y.toList = [] := by rw [HY.out, hy, ByteArray.toList_eq]; rfl
      have HR := Lib.hid (show Lm.bs (Fm.mt s.data.toList) = ⟨#[]⟩ by rw [HM.out, hy]; rfl)
      have HE := Lib.hid (show me s = 7 by unfold me; rw [HM.out, if_pos hy])
      clear hy
      gi_wp2_with fail
      have g1 := fun u => one_gap u (w.heap.size + 1 + 1) (.int .i64 7)
      have B1 := bk_gap (H2.out.set 0 (.string ⟨#[]⟩)) (g1 _) (.inl (by omega))
      have B2 := (bk_gap H3.out (one_gap W (w.heap.size + 1) (.string ⟨#[]⟩)) (.inr (by omega))).set 0 (.int .i64 7)
      have Q9 := (HQ.out.gapped (one_gap W (w.heap.size + 1) (.string ⟨#[]⟩)) (by omega)).gapped (g1 _) (by omega)
      have hK9 := ((g1 _).block _ (Nat.lt_of_lt_of_le (Array.getElem?_eq_some_iff.1 hK).1 (one_gap W (w.heap.size + 1) (.string ⟨#[]⟩)).size) (.inr (by omega))).trans (((one_gap W (w.heap.size + 1) (.string ⟨#[]⟩)).block _ (Array.getElem?_eq_some_iff.1 hK).1 (.inr (by omega))).trans hK)
      have g := fun u => Gap.putObj u w'.heap.size (.deferred none) w'.heap.size (w'.heap.size + 1) (Nat.le_refl _) (Nat.lt_succ_self _)
      refine ⟨by simp, .inl ⟨_, _, rfl, run_takeDeferred hK9, ?_⟩⟩
      exact ⟨_, results_cc rfl _ _ _ _ _ _ rfl rfl ((bk_gap B1 (g _) (.inl (by omega))).cell 0 rfl) plainS ((bk_gap B2 (g _) (.inl (by omega))).cell 0 rfl) plainE, by rw [HR.out, HE.out], Q9.gapped (g _) (by omega)⟩
    · have e1 : y.toList.isEmpty = false := by rw [HY.out]; exact bs_emp hy
      have e2 : ¬ y.toList = [] := by rw [HY.out, ByteArray.toList_eq, Lm.bs_list]; exact hy
      have HR := Lib.hid (show Lm.bs (Fm.mt s.data.toList) = y by rw [HM.out, HY.out])
      have HE := Lib.hid (show me s = 0 by unfold me; rw [HM.out, if_neg hy])
      clear hy
      gi_wp2_with fail
      have g1 := fun u => one_gap u (w.heap.size + 1 + 1) (.int .i64 0)
      have B1 := bk_gap (H2.out.set 0 (.string y)) (g1 _) (.inl (by omega))
      have B2 := (bk_gap H3.out (one_gap W (w.heap.size + 1) (.string y)) (.inr (by omega))).set 0 (.int .i64 0)
      have Q9 := (HQ.out.gapped (one_gap W (w.heap.size + 1) (.string y)) (by omega)).gapped (g1 _) (by omega)
      have hK9 := ((g1 _).block _ (Nat.lt_of_lt_of_le (Array.getElem?_eq_some_iff.1 hK).1 (one_gap W (w.heap.size + 1) (.string y)).size) (.inr (by omega))).trans (((one_gap W (w.heap.size + 1) (.string y)).block _ (Array.getElem?_eq_some_iff.1 hK).1 (.inr (by omega))).trans hK)
      have g := fun u => Gap.putObj u w'.heap.size (.deferred none) w'.heap.size (w'.heap.size + 1) (Nat.le_refl _) (Nat.lt_succ_self _)
      refine ⟨by simp, .inl ⟨_, _, rfl, run_takeDeferred hK9, ?_⟩⟩
      exact ⟨_, results_cc rfl _ _ _ _ _ _ rfl rfl ((bk_gap B1 (g _) (.inl (by omega))).cell 0 rfl) plainS ((bk_gap B2 (g _) (.inl (by omega))).cell 0 rfl) plainE, by rw [HR.out, HE.out], Q9.gapped (g _) (by omega)⟩
  case stop =>
    rintro c pre W _ ⟨rfl, hf, h2, h3, hq⟩ hK
    have HM := Lib.hid (show Fm.mt s.data.toList = s.data.toList from if_pos hf)
    have HE := Lib.hid (show me s = 0 from by unfold me; rw [HM.out]; exact if_neg (Fm.mt_ne hf))
    gi_wp2_with fail
    have g := Gap.putObj W w'.heap.size (.deferred none) w'.heap.size (w'.heap.size + 1) (Nat.le_refl _) (Nat.lt_succ_self _)
    refine ⟨by simp, .inl ⟨_, _, rfl, run_takeDeferred hK, ?_⟩⟩
    exact ⟨_, results_cc rfl _ _ _ _ _ _ rfl rfl ((bk_gap h2 g (.inl (by omega))).cell 0 rfl) plainS ((bk_gap h3 g (.inl (by omega))).cell 0 rfl) plainE, by rw [HM.out, HE.out]; rfl, hq.gapped g (by omega)⟩

end Ft
end Go.Proofs.Ytglljkbpdbnhaaa
