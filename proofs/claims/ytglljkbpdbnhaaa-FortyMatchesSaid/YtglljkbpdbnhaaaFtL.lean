/- The document's example; all are told in their row. -/
import Derived.Test.YtglljkbpdbnhaaaRows
import Derived.Test.YtglljkbpdbnhaaaInts
import Derived.Test.YtglljkbpdbnhaaaUtfM
import Derived.Test.YtglljkbpdbnhaaaUtfG
import Derived.Test.YtglljkbpdbnhaaaGap
import Derived.Test.YtglljkbpdbnhaaaEls
import Derived.Test.YtglljkbpdbnhaaaBlk
import Derived.Test.YtglljkbpdbnhaaaRng
import Derived.Test.YtglljkbpdbnhaaaRng2
import Derived.Test.YtglljkbpdbnhaaaFtM
import Derived.Test.YtglljkbpdbnhaaaFtA
import Derived.Test.YtglljkbpdbnhaaaFtB
import Derived.Test.YtglljkbpdbnhaaaFtD
import Derived.Test.YtglljkbpdbnhaaaFtR
import Derived.OrdersIn
import Derived.Deep.Cut
import Derived.OwnWalkIn
import Derived.TacticsInMore
import Derived.LoopNIn
import Derived.LoopIn
set_option linter.unusedVariables false
set_option linter.unusedSimpArgs false
namespace Go.Proofs.Ytglljkbpdbnhaaa
open Go.RowKit Go.Shelf Um
attribute [local go_sem] Oper.semAt_some
namespace Ft

theorem mt_de : Lm.bs (Fm.mt (⟨#[100, 101]⟩ : ByteArray).data.toList) = ⟨#[100, 101, 45, 65, 84]⟩ := by decide +kernel
theorem me_de : me ⟨#[100, 101]⟩ = 0 := by decide +kernel
theorem mt_fr : Lm.bs (Fm.mt (⟨#[102, 114, 45, 66, 69]⟩ : ByteArray).data.toList) = ⟨#[102, 114, 45, 67, 65]⟩ := by decide +kernel
theorem me_fr : me ⟨#[102, 114, 45, 66, 69]⟩ = 0 := by decide +kernel
theorem lives_any (w : World) : Calls Try.prog 12 #[] w fun e w' => e = .returned (.bool true) ∧ Q w w' := by
  have h1 := fun u => match_any ⟨#[100, 101]⟩ u (by decide)
  have h2 := fun u => match_any ⟨#[102, 114, 45, 66, 69]⟩ u (by decide)
  rw [mt_de, me_de] at h1
  rw [mt_fr, me_fr] at h2
  have H1 := Lib.hid h1
  have H2 := Lib.hid h2
  clear h1 h2
  go_enter Try.func12, Try.ntmps12
  go_wp2_with fail
  refine (H1.out _).mono ?_
  rintro e w1 ⟨rfl, hq1⟩
  go_wp2_with fail
  refine (H2.out _).mono ?_
  rintro e w2 ⟨rfl, hq2⟩
  have HQ := Lib.hid (hq1.trans hq2)
  clear hq1 hq2
  go_wp2_with fail
  go_ret
  exact ⟨rfl, HQ.out⟩
theorem around_nat {x : Nat} (h : x < 40) : around (x : Int) 40 = x := by
  unfold around
  rw [if_neg (by omega)]
  omega
/-- One result that lies in a block. -/
theorem results_c {fn : Func} {p : Tmp} {T : TypeId} (h : fn.results = #[.cell p T]) (tmps : Array Value) (w : World) (g : Nat) (v : Value)
    (hp : tmps.getD p undef = .pointer (some ⟨g, 0, none⟩)) (hg : w.cell? ⟨g, 0, none⟩ = some v) (hT : ∀ w, (isAgg T).run Try.prog w = .ok false w) : (results fn tmps).run Try.prog w = .ok v w := by
  have hp' : tmps[p]?.getD undef = .pointer (some ⟨g, 0, none⟩) := by simpa using hp
  have h1 := loadVar_plain hT hg
  simp [results, h, hp', asAddr, Sem.run_bind, Result.andThen, h1]
theorem fn_nil0 (d : Nat) (f : Fn) (a c : Array Value) (w : World) : (Op.equalIn (d + 1) 41 (.func f a c) .nilFunc).run Try.prog w = .ok false w := by
  unfold Op.equalIn
  rw [Sem.run_bind, run_underlying Try.underlying41 w]
  rfl
theorem fn_nil (w : World) : (binOp .eql 41 (.func (.func 19) #[] #[]) Value.nilFunc).run Try.prog w = .ok (.bool false) w := by
  show (do let b ← Op.equalIn (9999 + 1) 41 (.func (.func 19) #[] #[]) .nilFunc; pure (Value.bool b) : Sem Value).run Try.prog w = _
  rw [Sem.run_bind, fn_nil0]
  rfl
theorem plainB : ∀ w, (isAgg 4).run Try.prog w = .ok false w := run_isAgg_plain Try.underlying4 rfl

set_option maxRecDepth 100000 in
set_option maxHeartbeats 4000000 in
theorem law_all (n : Int) (w : World) (h0 : -9223372036854775808 ≤ n) (h1 : n ≤ 9223372036854775807) :
    Calls Try.prog 5 #[.int .i64 n] w fun e w' => e = .returned (.bool true) ∧ Q w w' := by
  have HA := Lib.hid (fun u => Ur.around_any n 40 u h0 h1 (by omega) (by omega))
  have hba := around_bd n 40 (by omega)
  obtain ⟨k, hk⟩ : ∃ k : Nat, (k : Int) = around n 40 := ⟨(around n 40).toNat, by omega⟩
  rw [← hk] at HA hba
  have hk40 : k < 40 := by omega
  have hki : (k : Int) < 40 := by omega
  clear hk hba h0 h1
  refine (callsIn_wide (n := 0)).1 ?_
  refine callsIn_of_wp_marks Try.func5 rfl trivial ?_ rfl
  simp only [Try.ntmps5, List.size_toArray, List.length_cons, List.length_nil, Nat.reduceAdd, Nat.reduceSub, Array.replicate_succ, Array.replicate_zero, List.push_toArray, List.append_toArray, List.nil_append, List.cons_append]
  gi_wp2_with fail
  refine ⟨trivial, rfl, (callsIn_wide.2 (HA.out _)).mono ?_⟩
  rintro e wa ⟨rfl, rfl⟩
  gi_wp2_with fail
  refine ⟨trivial, rfl, (callsIn_wide.2 (all_any _)).mono ?_⟩
  rintro e wb ⟨rfl, rfl⟩
  have hfn := fun u => fn_nil u
  have b0 : Bk (w.alloc (.cells #[.bool false] 4)) w.heap.size 4 [.bool false] := Bk.new _ _ _
  have b0 := b0.q ((Q.refl _).alloc (.cells #[.int .i64 (1 + (k : Int))] 3))
  have b0 := b0.q ((Q.refl _).alloc (.cells #[.int .i64 0] 3))
  have b1 : Bk ((w.alloc (.cells #[.bool false] 4)).alloc (.cells #[.int .i64 (1 + (k : Int))] 3)) (w.alloc (.cells #[.bool false] 4)).heap.size 3 [.int .i64 (1 + (k : Int))] := Bk.new _ _ _
  have b1 := b1.q ((Q.refl _).alloc (.cells #[.int .i64 0] 3))
  have b2 : Bk (((w.alloc (.cells #[.bool false] 4)).alloc (.cells #[.int .i64 (1 + (k : Int))] 3)).alloc (.cells #[.int .i64 0] 3)) ((w.alloc (.cells #[.bool false] 4)).alloc (.cells #[.int .i64 (1 + (k : Int))] 3)).heap.size 3 [.int .i64 0] := Bk.new _ _ _
  have hq0 : Q w (((w.alloc (.cells #[.bool false] 4)).alloc (.cells #[.int .i64 (1 + (k : Int))] 3)).alloc (.cells #[.int .i64 0] 3)) := (((Q.refl w).alloc _).alloc _).alloc _
  have hz0 : (((w.alloc (.cells #[.bool false] 4)).alloc (.cells #[.int .i64 (1 + (k : Int))] 3)).alloc (.cells #[.int .i64 0] 3)).heap.size = w.heap.size + 3 := by simp
  gi_wp2_with fail
  try simp only [World.size_alloc]
  simp only [World.size_alloc] at b1 b2
  obtain ⟨w', hw'⟩ : ∃ x, x = (((w.alloc (.cells #[.bool false] 4)).alloc (.cells #[.int .i64 (1 + (k : Int))] 3)).alloc (.cells #[.int .i64 0] 3)) := ⟨_, rfl⟩
  rw [← hw'] at b0 b1 b2 hq0 hz0 ⊢
  clear hw' hfn
  have hz1 : w'.heap.size ≤ w.heap.size + 3 := by omega
  have hz2 : w.heap.size + 3 ≤ w'.heap.size := by omega
  clear hz0
  refine range_any2 (gf := 19) (lb := #[]) rfl (enters_of Try.func19 (by kernel_rfl) rfl) (fun _ => rfl)
    (all_iter (w'.heap.size + 1 + 1) w') (by unfold SetR; omega) (by omega)
    (fun pre W => (∃ j, j < k + 1 ∧ pre = List.range j ∧ Bk W (w.heap.size + 1 + 1) 3 [.int .i64 j]) ∧ Bk W (w.heap.size) 4 [.bool false] ∧ Bk W (w.heap.size + 1) 3 [.int .i64 (1 + (k : Int))] ∧ Q w W)
    (fun c pre W => c = .exit 0 ∧ Bk W (w.heap.size) 4 [.bool false] ∧ Bk W (w.heap.size + 1) 3 [.int .i64 (1 + (k : Int))] ∧ Bk W (w.heap.size + 1 + 1) 3 [.int .i64 (1 + (k : Int))] ∧ Q w W)
    ?hI ?hIx ⟨⟨0, by omega, rfl, b2⟩, b0, b1, hq0⟩
    (fun x a W => ∃ b, w'.heap.size + 1 + 1 + 1 ≤ b ∧ Bk W b 29 (c8 (Fm.T x)) ∧ a = { tmps := #[.int .i64 n, undef, .pointer (some ⟨w.heap.size, 0, none⟩), .pointer (some ⟨w.heap.size + 1, 0, none⟩), .func (.func 19) #[] #[], .pointer (some ⟨w.heap.size + 1 + 1, 0, none⟩), .string (Lm.bs (Fm.T x).nam), .pointer (some ⟨b, 0, none⟩), undef, .int .i64 n, .int .i64 k, .int .i64 (1 + (k : Int)), .func (.func 19) #[] #[], .func (.func 19) #[] #[], .bool false, .func (.func 19) #[] #[], .string (Lm.bs (Fm.T x).nam), rV (Fm.T x), undef, undef, undef, undef, undef, undef, undef, undef, undef, undef, undef, undef, undef, undef, undef, undef, undef, undef, undef, undef, undef, undef, undef, undef, undef, undef], defers := [] }) ?hAs ?assign ?body ?done ?stop
  case hI =>
    rintro pre A A' ⟨⟨j, h4, h5, h0⟩, h1, h2, hq⟩ hg
    exact ⟨⟨j, h4, h5, bk_gap h0 hg (.inl (by omega))⟩, bk_gap h1 hg (.inl (by omega)), bk_gap h2 hg (.inl (by omega)), hq.gapped hg (by omega)⟩
  case hIx =>
    rintro c pre A A' ⟨hc, h1, h2, h3, hq⟩ hg
    exact ⟨hc, bk_gap h1 hg (.inl (by omega)), bk_gap h2 hg (.inl (by omega)), bk_gap h3 hg (.inl (by omega)), hq.gapped hg (by omega)⟩
  case hAs =>
    rintro x a A A' ⟨b, hb, h1, ha⟩ hg
    exact ⟨b, hb, bk_gap h1 hg (.inr hb), ha⟩
  case assign =>
    intro l x W K hz hK
    gi_wp2_with fail
    refine hK _ (W.alloc (.cells #[.string (Lm.bs (Fm.T x).nam), .string (Lm.bs (Fm.T x).pat), .string (Lm.bs (Fm.T x).sys), .string (Lm.bs (Fm.T x).dec), .string (Lm.bs (Fm.T x).grp), .string (Lm.bs (Fm.T x).min), .string (Lm.bs (Fm.T x).per), .string (Lm.bs (Fm.T x).cur)] 29)) ((Q.refl W).alloc _) ⟨W.heap.size, hz, Bk.new _ _ _, ?_⟩
    rfl
  case body =>
    rintro l pre x a W ⟨⟨j, hj, rfl, h0⟩, h1, h2, hq⟩ ⟨b, hb, hx, rfl⟩ hz ⟨j2, hj2, hjr⟩
    obtain ⟨rfl, rfl⟩ := range_snoc hjr
    have hx40 : x < 40 := by omega
    have hxi : (x : Int) < 40 := by omega
    have hxn : ¬ (40 : Int) ≤ (x : Int) := by omega
    have HO := Lib.hid (fun u => Fr.one_any (x : Int) u (by omega) (by omega))
    rw [around_nat hx40, Int.toNat_natCast] at HO
    have HT : Hid (rV (Fm.T x) = .agg #[.string (Lm.bs (Fm.T x).nam), .string (Lm.bs (Fm.T x).pat), .string (Lm.bs (Fm.T x).sys), .string (Lm.bs (Fm.T x).dec), .string (Lm.bs (Fm.T x).grp), .string (Lm.bs (Fm.T x).min), .string (Lm.bs (Fm.T x).per), .string (Lm.bs (Fm.T x).cur)]) := Lib.hid rfl
    rw [HT.out] at HO ⊢
    have hx : Bk W b 29 [.string (Lm.bs (Fm.T x).nam), .string (Lm.bs (Fm.T x).pat), .string (Lm.bs (Fm.T x).sys), .string (Lm.bs (Fm.T x).dec), .string (Lm.bs (Fm.T x).grp), .string (Lm.bs (Fm.T x).min), .string (Lm.bs (Fm.T x).per), .string (Lm.bs (Fm.T x).cur)] := hx
    clear HT
    generalize Lm.bs (Fm.T x).nam = s0 at *
    generalize Lm.bs (Fm.T x).pat = s1 at *
    generalize Lm.bs (Fm.T x).sys = s2 at *
    generalize Lm.bs (Fm.T x).dec = s3 at *
    generalize Lm.bs (Fm.T x).grp = s4 at *
    generalize Lm.bs (Fm.T x).min = s5 at *
    generalize Lm.bs (Fm.T x).per = s6 at *
    generalize Lm.bs (Fm.T x).cur = s7 at *
    have HQ := Lib.hid hq
    have H0 := Lib.hid h0
    have H1 := Lib.hid h1
    have H2 := Lib.hid h2
    have HX := Lib.hid hx
    have ci := h0.cell 0 rfl
    clear hq h0 h1 h2 hx hjr
    gi_wp2_with fail
    refine ⟨trivial, rfl, CallsIn.inRound l ((callsIn_wide.2 (HO.out _)).mono ?_)⟩
    rintro e z ⟨rfl, hqz⟩
    have HQ2 := Lib.hid (show Q W (z.alloc (.cells #[.string s0, .string s1, .string s2, .string s3, .string s4, .string s5, .string s6, .string s7] 24)) from hqz.alloc _)
    have hm : Bk (z.alloc (.cells #[.string s0, .string s1, .string s2, .string s3, .string s4, .string s5, .string s6, .string s7] 24)) z.heap.size 24 [.string s0, .string s1, .string s2, .string s3, .string s4, .string s5, .string s6, .string s7] := Bk.new _ _ _
    have hx := HX.out.q HQ2.out
    have hi := H0.out.q HQ2.out
    have ci := hi.cell 0 rfl
    have fi := hi.free 0
    have ck := (H2.out.q HQ2.out).cell 0 rfl
    have x0 := hx.cell 0 rfl
    have m0 := hm.cell 0 rfl
    have x1 := hx.cell 1 rfl
    have m1 := hm.cell 1 rfl
    have x2 := hx.cell 2 rfl
    have m2 := hm.cell 2 rfl
    have x3 := hx.cell 3 rfl
    have m3 := hm.cell 3 rfl
    have x4 := hx.cell 4 rfl
    have m4 := hm.cell 4 rfl
    have x5 := hx.cell 5 rfl
    have m5 := hm.cell 5 rfl
    have x6 := hx.cell 6 rfl
    have m6 := hm.cell 6 rfl
    have x7 := hx.cell 7 rfl
    have m7 := hm.cell 7 rfl
    clear hqz hm hx hi
    by_cases hxk : x = k
    · have et : (((x : Int) + 1) == (1 + (k : Int))) = true := by rw [beq_iff_eq]; omega
      have HE := Lib.hid (show (x : Int) + 1 = 1 + (k : Int) by omega)
      clear hxk
      gi_wp2_with fail
      refine ⟨(HQ2.out.stand _).trans (gap_stand (one_gap _ (w.heap.size + 1 + 1) _) ?_), rfl, bk_gap (H1.out.q HQ2.out) (one_gap _ (w.heap.size + 1 + 1) _) (.inl (by omega)), bk_gap (H2.out.q HQ2.out) (one_gap _ (w.heap.size + 1 + 1) _) (.inl (by omega)), ?_, (HQ.out.trans HQ2.out).gapped (one_gap _ (w.heap.size + 1 + 1) _) (by omega)⟩
      · intro k hk; simp only [SetR] at hk; omega
      · rw [← HE.out]; exact (H0.out.q HQ2.out).set 0 _
    · have et : (((x : Int) + 1) == (1 + (k : Int))) = false := by rw [beq_eq_false_iff_ne]; omega
      have hj3 : x + 1 < k + 1 := by omega
      clear hxk
      gi_wp2_with fail
      refine ⟨(HQ2.out.stand _).trans (gap_stand (one_gap _ (w.heap.size + 1 + 1) _) ?_), ⟨x + 1, hj3, range_add x, (H0.out.q HQ2.out).set 0 _⟩, bk_gap (H1.out.q HQ2.out) (one_gap _ (w.heap.size + 1 + 1) _) (.inl (by omega)), bk_gap (H2.out.q HQ2.out) (one_gap _ (w.heap.size + 1 + 1) _) (.inl (by omega)), (HQ.out.trans HQ2.out).gapped (one_gap _ (w.heap.size + 1 + 1) _) (by omega)⟩
      intro k hk; simp only [SetR] at hk; omega
  case done =>
    rintro xs W rfl ⟨⟨j, h4, h5, h0⟩, h1, h2, hq⟩ hK
    exfalso
    have h6 := congrArg List.length h5
    simp only [List.length_range] at h6
    omega
  case stop =>
    rintro c pre W _ ⟨rfl, h1, h2, h3, hq⟩ hK
    have HLV := Lib.hid (fun u => lives_any u)
    have c2 := h2.cell 0 rfl
    have c3 := h3.cell 0 rfl
    gi_wp2_with fail
    refine ⟨trivial, rfl, (callsIn_wide.2 (HLV.out _)).mono ?_⟩
    rintro e z ⟨rfl, hqz⟩
    have hb := h1.q hqz
    have c1 := hb.cell 0 rfl
    have f1 := hb.free 0
    have hK2 := (hqz.block (Array.getElem?_eq_some_iff.1 hK).1).trans hK
    gi_wp2_with fail
    have hK9 := ((one_gap z (w.heap.size) (.bool true)).block _ (Array.getElem?_eq_some_iff.1 hK2).1 (.inr (by omega))).trans hK2
    have g := fun u => Gap.putObj u w'.heap.size (.deferred none) w'.heap.size (w'.heap.size + 1) (Nat.le_refl _) (Nat.lt_succ_self _)
    refine ⟨by simp, .inl ⟨_, _, rfl, run_takeDeferred hK9, ?_⟩⟩
    exact ⟨_, results_c rfl _ _ _ _ rfl ((bk_gap (hb.set 0 (.bool true)) (g _) (.inl (by omega))).cell 0 rfl) plainB, rfl, ((hq.trans hqz).gapped (one_gap z (w.heap.size) (.bool true)) (by omega)).gapped (g _) (by omega)⟩

end Ft
end Go.Proofs.Ytglljkbpdbnhaaa
