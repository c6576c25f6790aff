/- A record of a name; all names. -/
import Derived.Test.YtglljkbpdbnhaaaRows
import Derived.Test.YtglljkbpdbnhaaaInts
import Derived.Test.YtglljkbpdbnhaaaUtfM
import Derived.Test.YtglljkbpdbnhaaaGap
import Derived.Test.YtglljkbpdbnhaaaEls
import Derived.Test.YtglljkbpdbnhaaaBlk
import Derived.Test.YtglljkbpdbnhaaaRng
import Derived.Test.YtglljkbpdbnhaaaRng2
import Derived.Test.YtglljkbpdbnhaaaFtM
import Derived.Test.YtglljkbpdbnhaaaFtA
import Derived.Deep.Cut
import Derived.OwnWalkIn
import Derived.TacticsInMore
import Derived.LoopNIn
import Derived.LoopIn
set_option linter.unusedVariables false
set_option linter.unusedSimpArgs false
namespace Go.Proofs.Ytglljkbpdbnhaaa
open Go.RowKit Go.Shelf Um
attribute [local go_sem] Oper.semAt_some
namespace Ft

theorem loadVar_plain {U : TypeId} {w : World} {b : Nat} {v : Value} (hU : ∀ w, (isAgg U).run Try.prog w = .ok false w) (hb : w.cell? ⟨b, 0, none⟩ = some v) :
    (loadVar U ⟨b, 0, none⟩).run Try.prog w = .ok v w := by
  simp [loadVar, Sem.run_bind, hU, go_sem, hb]
/-- Two results that lie in blocks: a struct and a plain one. -/
theorem results_rc {fn : Func} {p q : Tmp} {T U : TypeId} (h : fn.results = #[.cell p T, .cell q U]) (tmps : Array Value) (w : World) (g b : Nat) (l : List Value) (v : Value) {fs : _}
    (hp : tmps.getD p undef = .pointer (some ⟨g, 0, none⟩)) (hq : tmps.getD q undef = .pointer (some ⟨b, 0, none⟩)) (hg : Bk w g T l) (hu : Try.prog.underlying T = some (.struct fs)) (hi : (Try.prog.info? T).map (·.size) = some l.length)
    (hb : w.cell? ⟨b, 0, none⟩ = some v) (hU : ∀ w, (isAgg U).run Try.prog w = .ok false w) : (results fn tmps).run Try.prog w = .ok (.tuple #[.agg l.toArray, v]) w := by
  have hp' : tmps[p]?.getD undef = .pointer (some ⟨g, 0, none⟩) := by simpa using hp
  have hq' : tmps[q]?.getD undef = .pointer (some ⟨b, 0, none⟩) := by simpa using hq
  have h1 := run_loadVar_row w g T T l.toArray (0, 0) _ hg hu rfl (by simpa using hi)
  have h2 := loadVar_plain hU hb
  simp [results, h, hp', hq', asAddr, Sem.run_bind, Result.andThen, h1, h2]
theorem results_cc {fn : Func} {p q : Tmp} {T U : TypeId} (h : fn.results = #[.cell p T, .cell q U]) (tmps : Array Value) (w : World) (g b : Nat) (u v : Value)
    (hp : tmps.getD p undef = .pointer (some ⟨g, 0, none⟩)) (hq : tmps.getD q undef = .pointer (some ⟨b, 0, none⟩)) (hg : w.cell? ⟨g, 0, none⟩ = some u) (hT : ∀ w, (isAgg T).run Try.prog w = .ok false w)
    (hb : w.cell? ⟨b, 0, none⟩ = some v) (hU : ∀ w, (isAgg U).run Try.prog w = .ok false w) : (results fn tmps).run Try.prog w = .ok (.tuple #[u, v]) w := by
  have hp' : tmps[p]?.getD undef = .pointer (some ⟨g, 0, none⟩) := by simpa using hp
  have hq' : tmps[q]?.getD undef = .pointer (some ⟨b, 0, none⟩) := by simpa using hq
  have h1 := loadVar_plain hT hg
  have h2 := loadVar_plain hU hb
  simp [results, h, hp', hq', asAddr, Sem.run_bind, Result.andThen, h1, h2]
theorem plainE : ∀ w, (isAgg 30).run Try.prog w = .ok false w := run_isAgg_plain Try.underlying30 rfl
theorem plainS : ∀ w, (isAgg 9).run Try.prog w = .ok false w := run_isAgg_plain Try.underlying9 rfl
theorem range_snoc {k j x : Nat} (h : List.range k ++ [x] = List.range j) : x = k ∧ j = k + 1 := by
  have hl := congrArg List.length h
  simp at hl
  subst hl
  rw [List.range_succ] at h
  simpa using h
theorem bk_gap {w w' : World} {lo hi b : Nat} {T : TypeId} {l : List Value} (h : Bk w b T l) (hg : Gap lo hi w w') (ho : b < lo ∨ hi ≤ b) : Bk w' b T l := (hg.block b h.lt ho).trans h
theorem bk_heap {w w' : World} {b : Nat} {T : TypeId} {l : List Value} (h : Bk w b T l) (e : w'.heap[b]? = w.heap[b]?) : Bk w' b T l := e.trans h
/-- A block of eight cells, all written. -/
theorem bk_set8 {w : World} {b : Nat} {T : TypeId} {l : List Value} (h : Bk w b T l) (hl : l.length = 8) (a0 a1 a2 a3 a4 a5 a6 a7 : Value) :
    Bk ((((((((w.setCell ⟨b, 0, none⟩ a0).setCell ⟨b, 1, none⟩ a1).setCell ⟨b, 2, none⟩ a2).setCell ⟨b, 3, none⟩ a3).setCell ⟨b, 4, none⟩ a4).setCell ⟨b, 5, none⟩ a5).setCell ⟨b, 6, none⟩ a6).setCell ⟨b, 7, none⟩ a7) b T [a0, a1, a2, a3, a4, a5, a6, a7] := by
  match l, hl, h with
  | [_, _, _, _, _, _, _, _], _, h => exact (((((((h.set 0 a0).set 1 a1).set 2 a2).set 3 a3).set 4 a4).set 5 a5).set 6 a6).set 7 a7
theorem set8_gap (w : World) (b : Nat) (a0 a1 a2 a3 a4 a5 a6 a7 : Value) :
    Gap b (b + 1) w ((((((((w.setCell ⟨b, 0, none⟩ a0).setCell ⟨b, 1, none⟩ a1).setCell ⟨b, 2, none⟩ a2).setCell ⟨b, 3, none⟩ a3).setCell ⟨b, 4, none⟩ a4).setCell ⟨b, 5, none⟩ a5).setCell ⟨b, 6, none⟩ a6).setCell ⟨b, 7, none⟩ a7) :=
  have g := fun (u : World) (o : Nat) (v : Value) => Gap.setCell u b o v b (b + 1) (Nat.le_refl _) (Nat.lt_succ_self _)
  (((((((g _ 0 a0).trans (g _ 1 a1)).trans (g _ 2 a2)).trans (g _ 3 a3)).trans (g _ 4 a4)).trans (g _ 5 a5)).trans (g _ 6 a6)).trans (g _ 7 a7)
theorem gap_stand {lo hi : Nat} {A A' : World} {S : Nat → Prop} (h : Gap lo hi A A') (hs : ∀ k, S k → k < lo ∨ hi ≤ k) : Stand S A A' := ⟨h.size, fun k hk hsk => h.block k hk (hs k hsk)⟩

def rr (s : ByteArray) : Lm.Rec := if 0 ≤ Fm.fnd s.data.toList 40 then Fm.T (Fm.fnd s.data.toList 40).toNat else Fm.rec0
def er (s : ByteArray) : Int := if 0 ≤ Fm.fnd s.data.toList 40 then 0 else 7
theorem rV0 : rV Fm.rec0 = .agg #[.string ⟨#[]⟩, .string ⟨#[]⟩, .string ⟨#[]⟩, .string ⟨#[]⟩, .string ⟨#[]⟩, .string ⟨#[]⟩, .string ⟨#[]⟩, .string ⟨#[]⟩] := rfl
set_option maxRecDepth 100000 in
set_option maxHeartbeats 2000000 in
theorem record_get (s : ByteArray) (w : World) :
    Calls Try.prog 10 #[.string s] w fun e w' => e = .returned (.tuple #[rV (rr s), .int .i64 (er s)]) ∧ Q w w' := by
  refine (callsIn_wide (n := 0)).1 ?_
  refine callsIn_of_wp_marks Try.func10 rfl trivial ?_ rfl
  simp only [Try.ntmps10, List.size_toArray, List.length_cons, List.length_nil, Nat.reduceAdd, Nat.reduceSub, Array.replicate_succ, Array.replicate_zero, List.push_toArray, List.append_toArray, List.nil_append, List.cons_append]
  gi_wp2_with fail
  refine ⟨trivial, rfl, (callsIn_wide.2 (all_any _)).mono ?_⟩
  rintro e w' ⟨rfl, hw'⟩
  have b1 : Bk (w.alloc (.cells #[.string s] 9)) w.heap.size 9 [.string s] := Bk.new _ _ _
  have b2 : Bk ((w.alloc (.cells #[.string s] 9)).alloc (.cells #[.string ⟨#[]⟩, .string ⟨#[]⟩, .string ⟨#[]⟩, .string ⟨#[]⟩, .string ⟨#[]⟩, .string ⟨#[]⟩, .string ⟨#[]⟩, .string ⟨#[]⟩] 29)) (w.alloc (.cells #[.string s] 9)).heap.size 29 [.string ⟨#[]⟩, .string ⟨#[]⟩, .string ⟨#[]⟩, .string ⟨#[]⟩, .string ⟨#[]⟩, .string ⟨#[]⟩, .string ⟨#[]⟩, .string ⟨#[]⟩] := Bk.new _ _ _
  have b3 : Bk (((w.alloc (.cells #[.string s] 9)).alloc (.cells #[.string ⟨#[]⟩, .string ⟨#[]⟩, .string ⟨#[]⟩, .string ⟨#[]⟩, .string ⟨#[]⟩, .string ⟨#[]⟩, .string ⟨#[]⟩, .string ⟨#[]⟩] 29)).alloc (.cells #[.int .i64 0] 30)) ((w.alloc (.cells #[.string s] 9)).alloc (.cells #[.string ⟨#[]⟩, .string ⟨#[]⟩, .string ⟨#[]⟩, .string ⟨#[]⟩, .string ⟨#[]⟩, .string ⟨#[]⟩, .string ⟨#[]⟩, .string ⟨#[]⟩] 29)).heap.size 30 [.int .i64 0] := Bk.new _ _ _
  have b1 := (b1.q ((Q.refl _).alloc (.cells #[.string ⟨#[]⟩, .string ⟨#[]⟩, .string ⟨#[]⟩, .string ⟨#[]⟩, .string ⟨#[]⟩, .string ⟨#[]⟩, .string ⟨#[]⟩, .string ⟨#[]⟩] 29))).q ((Q.refl _).alloc (.cells #[.int .i64 0] 30))
  have b2 := b2.q ((Q.refl _).alloc (.cells #[.int .i64 0] 30))
  have hq0 : Q w (((w.alloc (.cells #[.string s] 9)).alloc (.cells #[.string ⟨#[]⟩, .string ⟨#[]⟩, .string ⟨#[]⟩, .string ⟨#[]⟩, .string ⟨#[]⟩, .string ⟨#[]⟩, .string ⟨#[]⟩, .string ⟨#[]⟩] 29)).alloc (.cells #[.int .i64 0] 30)) := (((Q.refl w).alloc _).alloc _).alloc _
  have hz0 : (((w.alloc (.cells #[.string s] 9)).alloc (.cells #[.string ⟨#[]⟩, .string ⟨#[]⟩, .string ⟨#[]⟩, .string ⟨#[]⟩, .string ⟨#[]⟩, .string ⟨#[]⟩, .string ⟨#[]⟩, .string ⟨#[]⟩] 29)).alloc (.cells #[.int .i64 0] 30)).heap.size = w.heap.size + 3 := by simp
  rw [← hw'] at b1 b2 b3 hq0 hz0
  simp only [World.size_alloc] at b2 b3
  clear hw'
  gi_wp2_with fail
  try simp only [World.size_alloc]
  have hz1 : w'.heap.size ≤ w.heap.size + 3 := by omega
  have hz2 : w.heap.size + 3 ≤ w'.heap.size := by omega
  clear hz0
  refine range_any2 (gf := 19) (lb := #[]) rfl (enters_of Try.func19 (by kernel_rfl) rfl) (fun _ => rfl)
    (all_iter (w'.heap.size + 1 + 1) w') (by unfold SetR; omega) (by omega)
    (fun pre W => (∃ k, k ≤ 40 ∧ pre = List.range k ∧ Fm.fnd s.data.toList k < 0) ∧ Bk W w.heap.size 9 [.string s] ∧ Bk W (w.heap.size + 1) 29 [.string ⟨#[]⟩, .string ⟨#[]⟩, .string ⟨#[]⟩, .string ⟨#[]⟩, .string ⟨#[]⟩, .string ⟨#[]⟩, .string ⟨#[]⟩, .string ⟨#[]⟩] ∧ Bk W (w.heap.size + 1 + 1) 30 [.int .i64 0] ∧ Q w W)
    (fun c pre W => c = .ret ∧ 0 ≤ Fm.fnd s.data.toList 40 ∧ Bk W (w.heap.size + 1) 29 (c8 (Fm.T (Fm.fnd s.data.toList 40).toNat)) ∧ Bk W (w.heap.size + 1 + 1) 30 [.int .i64 0] ∧ Q w W)
    ?hI ?hIx ⟨⟨0, by omega, rfl, (by decide : (-1 : Int) < 0)⟩, b1, b2, b3, hq0⟩
    (fun x a W => ∃ b, w'.heap.size + 1 + 1 + 1 ≤ b ∧ Bk W b 29 (c8 (Fm.T x)) ∧ a = { tmps := #[.string s, .pointer (some ⟨w.heap.size, 0, none⟩), .pointer (some ⟨w.heap.size + 1, 0, none⟩), .pointer (some ⟨w.heap.size + 1 + 1, 0, none⟩), .string (Lm.bs (Fm.T x).nam), .pointer (some ⟨b, 0, none⟩), .func (.func 19) #[] #[], .string (Lm.bs (Fm.T x).nam), rV (Fm.T x), undef, undef, undef, undef, undef], defers := [] }) ?hAs ?assign ?body ?done ?stop
  case hI =>
    rintro pre A A' ⟨hk, h1, h2, h3, hq⟩ hg
    exact ⟨hk, bk_gap h1 hg (.inl (by omega)), bk_gap h2 hg (.inl (by omega)), bk_gap h3 hg (.inl (by omega)), hq.gapped hg (by omega)⟩
  case hIx =>
    rintro c pre A A' ⟨hc, hf, h2, h3, hq⟩ hg
    exact ⟨hc, hf, bk_gap h2 hg (.inl (by omega)), bk_gap h3 hg (.inl (by omega)), hq.gapped hg (by omega)⟩
  case hAs =>
    rintro x a A A' ⟨b, hb, h1, ha⟩ hg
    exact ⟨b, hb, bk_gap h1 hg (.inr hb), ha⟩
  case assign =>
    intro l x W K hz hK
    gi_wp2_with fail
    refine hK _ (W.alloc (.cells #[.string (Lm.bs (Fm.T x).nam), .string (Lm.bs (Fm.T x).pat), .string (Lm.bs (Fm.T x).sys), .string (Lm.bs (Fm.T x).dec), .string (Lm.bs (Fm.T x).grp), .string (Lm.bs (Fm.T x).min), .string (Lm.bs (Fm.T x).per), .string (Lm.bs (Fm.T x).cur)] 29)) ((Q.refl W).alloc _) ⟨W.heap.size, hz, Bk.new _ _ _, ?_⟩
    rfl
  case body =>
    rintro l pre x a W ⟨⟨k, hk, rfl, hf⟩, h1, h2, h3, hq⟩ ⟨b, hb, hx, rfl⟩ hz ⟨j, hj, hjr⟩
    obtain ⟨rfl, rfl⟩ := range_snoc hjr
    have HF := Lib.hid hf
    have HQ := Lib.hid hq
    have HX := Lib.hid hx
    have H2 := Lib.hid h2
    have H3 := Lib.hid h3
    have cs := h1.cell 0 rfl
    obtain ⟨n, hn⟩ : ∃ n, n = Lm.bs (Fm.T x).nam := ⟨_, rfl⟩
    have HN := Lib.hid hn
    clear hf hq hjr
    by_cases he : n = s
    · have hfin : (x : Int) = Fm.fnd s.data.toList 40 := by
        have h1 : Fm.fnd s.data.toList (x + 1) = x := Fm.fnd_hit HF.out (by rw [← he, HN.out, Lm.bs_list]; rfl)
        rw [← h1]; exact (Fm.fnd_stay (by omega) 40 (by omega)).symm
      have HG := Lib.hid hfin
      have hns : Lm.bs (Fm.T x).nam = s := by rw [← hn, he]
      rw [hns]
      have HNS := Lib.hid hns
      clear hfin he hn HN h1
      have x0 := hx.cell 0 rfl
      have x1 := hx.cell 1 rfl
      have x2 := hx.cell 2 rfl
      have x3 := hx.cell 3 rfl
      have x4 := hx.cell 4 rfl
      have x5 := hx.cell 5 rfl
      have x6 := hx.cell 6 rfl
      have x7 := hx.cell 7 rfl
      have p0 := h2.cell 0 rfl
      have f0 := h2.free 0
      have p1 := h2.cell 1 rfl
      have f1 := h2.free 1
      have p2 := h2.cell 2 rfl
      have f2 := h2.free 2
      have p3 := h2.cell 3 rfl
      have f3 := h2.free 3
      have p4 := h2.cell 4 rfl
      have f4 := h2.free 4
      have p5 := h2.cell 5 rfl
      have f5 := h2.free 5
      have p6 := h2.cell 6 rfl
      have f6 := h2.free 6
      have p7 := h2.cell 7 rfl
      have f7 := h2.free 7
      have e0 := h3.cell 0 rfl
      have g0 := h3.free 0
      gi_wp2_with fail
      refine ⟨(gap_stand (set8_gap W (w.heap.size + 1) _ _ _ _ _ _ _ _) ?_).trans (gap_stand (Gap.setCell _ (w.heap.size + 1 + 1) 0 _ (w.heap.size + 1 + 1) (w.heap.size + 1 + 1 + 1) (Nat.le_refl _) (Nat.lt_succ_self _)) ?_), rfl, by rw [← HG.out]; omega, ?_, ?_, ?_⟩
      · intro k hk; simp only [SetR] at hk; omega
      · intro k hk; simp only [SetR] at hk; omega
      · rw [show (Fm.fnd s.data.toList 40).toNat = x by rw [← HG.out]; simp]
        have h := bk_gap (bk_set8 H2.out rfl (.string (Lm.bs (Fm.T x).nam)) (.string (Lm.bs (Fm.T x).pat)) (.string (Lm.bs (Fm.T x).sys)) (.string (Lm.bs (Fm.T x).dec)) (.string (Lm.bs (Fm.T x).grp)) (.string (Lm.bs (Fm.T x).min)) (.string (Lm.bs (Fm.T x).per)) (.string (Lm.bs (Fm.T x).cur))) (Gap.setCell _ (w.heap.size + 1 + 1) 0 (.int .i64 0) (w.heap.size + 1 + 1) (w.heap.size + 1 + 1 + 1) (Nat.le_refl _) (Nat.lt_succ_self _)) (.inl (by omega))
        rw [HNS.out] at h
        show Bk _ _ _ [.string (Lm.bs (Fm.T x).nam), _, _, _, _, _, _, _]
        rw [HNS.out]
        exact h
      · exact (bk_gap H3.out (set8_gap W (w.heap.size + 1) _ _ _ _ _ _ _ _) (.inr (by omega))).set 0 _
      · exact (HQ.out.gapped (set8_gap W (w.heap.size + 1) _ _ _ _ _ _ _ _) (by omega)).gapped (Gap.setCell _ (w.heap.size + 1 + 1) 0 _ (w.heap.size + 1 + 1) (w.heap.size + 1 + 1 + 1) (Nat.le_refl _) (Nat.lt_succ_self _)) (by omega)
    · have hne := str_ne he
      have HG := Lib.hid (show Fm.fnd s.data.toList (x + 1) < 0 from Fm.fnd_miss HF.out (fun h => he (by
        rw [HN.out]; exact Fm.bs_of h)))
      have H1 := Lib.hid h1
      rw [← hn]
      clear he hn h1
      gi_wp2_with fail
      exact ⟨Stand.refl _ _, ⟨x + 1, by omega, range_add x, HG.out⟩, H1.out, H2.out, H3.out, HQ.out⟩
  case done =>
    rintro xs W rfl ⟨⟨k, hk, hk2, hf⟩, h1, h2, h3, hq⟩ hK
    have hk3 := congrArg List.length hk2
    simp only [List.length_range] at hk3
    subst hk3
    have HR := Lib.hid (show rr s = Fm.rec0 from if_neg (by omega))
    have HE := Lib.hid (show er s = 7 from if_neg (by omega))
    have HQ := Lib.hid hq
    have H2 := Lib.hid h2
    have H3 := Lib.hid h3
    clear hf hk hk2 h1 hq
    have p0 := h2.cell 0 rfl
    have f0 := h2.free 0
    have p1 := h2.cell 1 rfl
    have f1 := h2.free 1
    have p2 := h2.cell 2 rfl
    have f2 := h2.free 2
    have p3 := h2.cell 3 rfl
    have f3 := h2.free 3
    have p4 := h2.cell 4 rfl
    have f4 := h2.free 4
    have p5 := h2.cell 5 rfl
    have f5 := h2.free 5
    have p6 := h2.cell 6 rfl
    have f6 := h2.free 6
    have p7 := h2.cell 7 rfl
    have f7 := h2.free 7
    have e0 := h3.cell 0 rfl
    have g0 := h3.free 0
    have G8 := Lib.hid (set8_gap W (w.heap.size + 1) (.string ⟨#[]⟩) (.string ⟨#[]⟩) (.string ⟨#[]⟩) (.string ⟨#[]⟩) (.string ⟨#[]⟩) (.string ⟨#[]⟩) (.string ⟨#[]⟩) (.string ⟨#[]⟩))
    have B8 := Lib.hid (bk_set8 H2.out rfl (.string ⟨#[]⟩) (.string ⟨#[]⟩) (.string ⟨#[]⟩) (.string ⟨#[]⟩) (.string ⟨#[]⟩) (.string ⟨#[]⟩) (.string ⟨#[]⟩) (.string ⟨#[]⟩))
    gi_wp2_with fail
    have g1 := fun u => Gap.setCell u (w.heap.size + 1 + 1) 0 (.int .i64 7) (w.heap.size + 1 + 1) (w.heap.size + 1 + 1 + 1) (Nat.le_refl _) (Nat.lt_succ_self _)
    have HB9 := Lib.hid (bk_gap B8.out (g1 _) (.inl (by omega)))
    have HE9 := Lib.hid ((bk_gap H3.out G8.out (.inr (by omega))).set 0 (.int .i64 7))
    have HQ9 := Lib.hid ((HQ.out.gapped G8.out (by omega)).gapped (g1 _) (by omega))
    have hK8 := (G8.out.block _ (Array.getElem?_eq_some_iff.1 hK).1 (.inr (by omega))).trans hK
    have hK9 := ((g1 _).block _ (Array.getElem?_eq_some_iff.1 hK8).1 (.inr (by omega))).trans hK8
    have g := fun u => Gap.putObj u w'.heap.size (.deferred none) w'.heap.size (w'.heap.size + 1) (Nat.le_refl _) (Nat.lt_succ_self _)
    refine ⟨by simp, .inl ⟨_, _, rfl, run_takeDeferred hK9, ?_⟩⟩
    exact ⟨_, results_rc rfl _ _ _ _ _ _ rfl rfl (bk_gap HB9.out (g _) (.inl (by omega))) Try.underlying29 (by exact infoLR) ((bk_gap HE9.out (g _) (.inl (by omega))).cell 0 rfl) plainE, by rw [HR.out, HE.out]; rfl, HQ9.out.gapped (g _) (by omega)⟩
  case stop =>
    rintro c pre W _ ⟨rfl, hf, h2, h3, hq⟩ hK
    have HR := Lib.hid (show rr s = Fm.T (Fm.fnd s.data.toList 40).toNat from if_pos hf)
    have HE := Lib.hid (show er s = 0 from if_pos hf)
    gi_wp2_with fail
    have g := Gap.putObj W w'.heap.size (.deferred none) w'.heap.size (w'.heap.size + 1) (Nat.le_refl _) (Nat.lt_succ_self _)
    refine ⟨by simp, .inl ⟨_, _, rfl, run_takeDeferred hK, ?_⟩⟩
    exact ⟨_, results_rc rfl _ _ _ _ _ _ rfl rfl (bk_gap h2 g (.inl (by omega))) Try.underlying29 (by exact infoLR) ((bk_gap h3 g (.inl (by omega))).cell 0 rfl) plainE, by rw [HR.out, HE.out], hq.gapped g (by omega)⟩

end Ft
end Go.Proofs.Ytglljkbpdbnhaaa
