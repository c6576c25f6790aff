/- Without its outermost faults an error has the rest of its path, and its code: whatever the number, the texts and how many faults. Condition: the package-level variables that the row lists hold at the call what the program's text lays in them (the card ties them to that text; that nothing else writes them is the translator's report, over the seat's pruned copy of the project). -/
import Derived.Test.YtfnojkcklgmoiaaDoorRows
import Derived.WalkKit
import Derived.ProofKit
import Derived.OpenShut
import Derived.ShutString
import Derived.ChangeOld
import Derived.Below
import Derived.Lib.SmallJoins
import Derived.Test.YtfnojkcklgmoiaaDoorInts
import Derived.SevenTiedAt
import Derived.Handed
import Derived.Test.YtfnojkcklgmoiaaDoorCards
import Derived.Test.YtfnojkcklgmoiaaDoorTie
import Derived.Test.YtfnojkcklgmoiaaDoorCard
import Derived.Test.YtfnojkcklgmoiaaDoorErrL
set_option linter.unusedVariables false
set_option linter.unusedSimpArgs false
namespace Go.Proofs.YtfnojkcklgmoiaaDoor.faultCuts
open Go.ChangeShapes Go.WideShapes Go.ChangeAt Go.RowKit
open Go.ChangeMaps (open_string shut_string)

theorem own : ownKnob Tryd.prog.godebug = none := by kernel_rfl
theorem laidOut : laidOutB Tryd.prog = true := by kernel_rfl

theorem same (z v : Value) (xs : List ByteArray) (w : World) (hz : SLst w z xs) (hv : SLst w v xs) (hl : xs.length < 1099511627776) :
    Calls Tryd.prog 12 #[z, v] w fun e w' => e = .returned (.bool true) ∧ Q w w' := by
  refine (Gr.sames_any z v xs xs w hz hv hl hl).mono ?_
  rintro e w' ⟨rfl, hq⟩
  exact ⟨retB (decide_eq_true rfl), hq⟩
/-- The three ways of what is left behind the first k texts. -/
theorem rest {w : World} {a : Option Addr} {n c z : Nat} {zs : List ByteArray} (h : SLst w (.slice a n c) zs) (hn : zs.length = n) (hz : z ≤ n) :
    (∃ g off, a = some ⟨g, off, none⟩ ∧ z < n ∧ n ≤ c ∧ c ≤ 9223372036854775807 ∧ SLst w (.slice (some ⟨g, off + z, none⟩) (n - z) (c - z)) (zs.drop z)) ∨
    (z = n ∧ c = n ∧ zs.drop z = []) ∨ (∃ ad, a = some ad ∧ z = n ∧ n < c ∧ c ≤ 9223372036854775807 ∧ zs.drop z = []) := by
  have hf := h.form0 hn
  obtain ⟨_, _, hv, hnc, hcm⟩ := hf
  cases hv
  unfold maxLen at hcm
  have hcm' : c ≤ 9223372036854775807 := by omega
  by_cases hlt : z < n
  · rcases h with ⟨rfl, _⟩ | ⟨g, off, cap, hv, hg, h1, h2, hc⟩
    · simp at hn; omega
    · cases hv
      refine .inl ⟨g, off, rfl, hlt, hnc, hcm', .inr ⟨g, off + z, c - z, by rw [List.length_drop], hg, by rw [List.length_drop]; omega, by unfold maxLen; omega, fun i x hi => ?_⟩⟩
      rw [List.getElem?_drop] at hi
      rw [Nat.add_assoc]
      exact hc (z + i) x hi
  · have he : zs.drop z = [] := List.drop_eq_nil_of_le (by omega)
    by_cases hcn : c = n
    · exact .inr (.inl ⟨by omega, hcn, he⟩)
    · refine .inr (.inr ?_)
      cases a with
      | some ad => exact ⟨ad, rfl, by omega, by omega, hcm', he⟩
      | none =>
        rcases h with ⟨rfl, _, _, hv2, _, hn2⟩ | ⟨_, _, _, hv2, _⟩
        · cases hv2
          have := hn2 rfl
          omega
        · cases hv2

set_option maxHeartbeats 4000000 in
set_option maxRecDepth 100000 in
theorem walk (w : World) (he : Fe.Env w) (a0 : Int) (w0 : -9223372036854775808 ≤ a0 ∧ a0 ≤ 9223372036854775807) (v1 : Value) (xs1 : List ByteArray) (w1 : SLst w v1 xs1) (b1 : ∀ s ∈ xs1, s.size ≤ maxLen) (n1 : xs1.length ≤ maxLen) (a2 : Int) (w2 : -9223372036854775808 ≤ a2 ∧ a2 ≤ 9223372036854775807) :
    Calls Tryd.prog 6 #[.int .i64 a0, v1, .int .i64 a2] w fun e w' => e = .returned (.bool true) ∧ Q w w' := by
  obtain ⟨hd0, hd1⟩ := Fe.cod_bd a0 w0.1 w0.2
  have hpl := Fe.pth_length xs1 (Fe.six xs1)
  have hpc := Fe.pth_cat xs1 (Fe.six xs1)
  have h6 : Fe.six xs1 ≤ 6 := Nat.min_le_right _ _
  have hb := Lib.hid (Fe.begin_any a0 v1 xs1 w he w1 b1 n1 w0.1 w0.2)
  have HE := Lib.hid he
  have hdn := Fe.cod_ne a0
  generalize Fe.cod a0 = d at hd0 hd1 hb hdn
  generalize Fe.pth xs1 (Fe.six xs1) = P at hpl hpc hb
  have hpl6 : P.length ≤ 6 := by omega
  have hpc72 : (cat P).length ≤ 72 := by omega
  have hpc6 : (cat P).length ≤ 1000000 := by omega
  obtain ⟨a1, c1, rfl⟩ := w1.shape
  have HN := Lib.hid hdn
  clear hpl hpc h6 hdn he w1 b1 n1
  go_enter Tryd.func6, Tryd.ntmps6
  go_wp2_with fail
  refine hb.out.mono ?_
  rintro e w1 ⟨⟨x, y, rfl, hx, hy⟩, hq1⟩
  obtain ⟨tx, vx, rfl⟩ := hx.iface
  obtain ⟨n, hn⟩ : ∃ n, P.length = n := ⟨_, rfl⟩
  obtain ⟨ya, yc, rfl, _, _⟩ := hy.form0 hn
  have HL := Lib.hid hn
  rw [hn] at hpl6
  clear hn
  have he1 := HE.out.q hq1
  clear hb
  have hx1 := hx
  have hy1 := hy
  have hcutn := Lib.hid (fun u => Fe.cut_nil a2 u)
  have hab := Um.around_bd a2 8 (by omega)
  obtain ⟨r, hr⟩ : ∃ r, r = Um.around a2 8 := ⟨_, rfl⟩
  have haro := Lib.hid (fun u => hr ▸ Ur.around_any a2 8 u w2.1 w2.2 (by omega) (by omega))
  rw [← hr] at hab
  clear hr
  go_wp2_with fail
  refine (haro.out _).mono ?_
  rintro e wz ⟨rfl, hwz⟩
  rw [← hwz]
  clear hwz
  have hks := Lst.made w1 [a2, r] 2 rfl (by unfold maxLen; omega)
  have hqk : Q w1 (w1.alloc (.cells ([a2, r].map (Value.int .i64)).toArray 3)) := (Q.refl w1).alloc _
  have HK := Lib.hid hks
  have HQ := Lib.hid hqk
  have hbd : ∀ j : Nat, j < 2 → -9223372036854775808 ≤ [a2, r].getD j 0 ∧ [a2, r].getD j 0 ≤ 9223372036854775807 := fun j hj => by
    rcases j with _ | _ | j
    · exact w2
    · show _ ≤ r ∧ r ≤ _; omega
    · omega
  have HB := Lib.hid hbd
  clear hks hqk hbd
  go_wp2_with fail
  go_loopw [11] (fun i wr => ∃ j : Nat, i = .int .i64 j ∧ j ≤ 2 ∧ Q w1 wr ∧ Lst wr (.slice (some ⟨w1.heap.size, 0, none⟩) 2 2) [a2, r]) (fun i _ => 2 - (intOf i).toNat)
  case atStart => exact ⟨0, rfl, by omega, HQ.out, HK.out⟩
  case round =>
    obtain ⟨j, rfl, hj, hq, hl⟩ := hrel
    by_cases hj2 : j < 2
    · obtain ⟨m, hm⟩ : ∃ m, m = [a2, r].getD j 0 := ⟨_, rfl⟩
      obtain ⟨g, off, cap, hv, _, _, _, c1⟩ := hl.cellOf (n := 2) (k := j) rfl hj2
      cases hv
      rw [← hm, Nat.zero_add] at c1
      have hmb := HB.out j hj2
      rw [← hm] at hmb
      obtain ⟨hm0, hm1⟩ := hmb
      clear hm
      have hji : (j : Int) < 2 := by omega
      obtain ⟨k, hk⟩ : ∃ k : Nat, max (min m (n : Int)) 0 = (k : Int) := ⟨(max (min m (n : Int)) 0).toNat, by omega⟩
      have hkl : k ≤ n := by omega
      have hdr : P.drop m.toNat = P.drop k := by
        by_cases hmm : m.toNat ≤ n
        · rw [show m.toNat = k from by omega]
        · rw [show k = P.length from by rw [HL.out]; omega, List.drop_length, List.drop_of_length_le (by rw [HL.out]; omega)]
      have HD := Lib.hid hdr
      have her := he1.q hq
      have hxr := hx1.q hq
      have hdl : (P.drop k).length ≤ 6 := by rw [List.length_drop, HL.out]; omega
      clear hdr
      go_wp2_with fail
      refine (Fe.cut_any d P _ m wr her.handle hxr hm0 hm1).mono ?_
      rintro e w5 ⟨⟨X, rfl, hX⟩, hr5⟩
      rw [HD.out] at hX
      have hq5 := hq.trans hr5
      have hX5 := hX.q hr5
      obtain ⟨tX, vX, rfl⟩ := hX.iface
      have HC := Lib.hid (fun u (h : Q w1 u) (h' : Q w5 u) => Fe.code_any d (P.drop k) _ u (he1.q h).handle (hX5.q h'))
      have HP := Lib.hid (fun u (h : Q w1 u) (h' : Q w5 u) => Fe.path_any d (P.drop k) _ u (he1.q h).handle (hX5.q h') (by omega))
      have HS := Lib.hid (fun z u v (hz : SLst u z (P.drop k)) (hv : SLst u v (P.drop k)) => same z v (P.drop k) u hz hv (by omega))
      have HY := Lib.hid (fun u (h : Q w1 u) => hy1.q h)
      have hr := rest (hy1.q hq5) HL.out hkl
      have hl5 := hl.q hr5
      clear hX hX5 hxr her c1 hl
      rcases hr with ⟨g, off, rfl, hkn, hnc, hcm, hry⟩ | ⟨hkn, hnc, hz0⟩ | ⟨ad, rfl, hkn, hnc, hcm, hz0⟩
      · have hkc : (k : Int) ≤ (yc : Int) := by omega
        have hne : ¬ (yc = k) := by omega
        have hne2 : ¬ (yc - k = 0) := by omega
        have hkn' : (k : Int) ≤ (n : Int) := by omega
        have HZ := Lib.hid (show (P.drop k).length = n - k by rw [List.length_drop, HL.out])
        go_wp2_with fail
        go_region_with (first
          | (go_at_call 11; refine (HC.out _ ?_ ?_).mono ?_; (exact hq5.drew); (exact (Q.refl w5).drew); rintro e wA ⟨rfl, hrA⟩; have hqA := hq5.drew.trans hrA; have hA5 := (Q.refl w5).drew.trans hrA)
          | (go_at_call 13; refine (HP.out _ ?_ ?_).mono ?_; (exact hqA); (exact hA5); rintro e wB ⟨⟨z, rfl, hz⟩, hrB⟩; have hqB := hqA.trans hrB; have hB5 := hA5.trans hrB; obtain ⟨za, zc, rfl, _, _⟩ := hz.lst.form0 (n := n - k) HZ.out)
          | (go_at_call 12; refine (HS.out _ _ _ ?_ ?_).mono ?_; (exact hz.lst); (exact (hry.q hB5)); rintro e wC ⟨rfl, hrC⟩))
        all_goals go_wp2_with fail
        all_goals exact ⟨⟨j + 1, by go_num, by omega, hqB.trans hrC, hl5.q (hB5.trans hrC)⟩, by simp [intOf]; omega⟩
      · subst hkn
        subst hnc
        have HZ := Lib.hid (show (P.drop yc).length = 0 by rw [hz0]; rfl)
        have hX : ∀ (u : World) (a : Option Addr), SLst u (.slice a 0 0) (P.drop yc) := fun u a => by rw [hz0]; exact GLst.nil _ _ a 0 (by unfold maxLen; omega) (fun _ => rfl)
        have HX := Lib.hid hX
        clear hX hz0
        cases ya
        all_goals
          go_wp2_with fail
          go_region_with (first
            | (go_at_call 11; refine (HC.out _ ?_ ?_).mono ?_; (exact hq5.drew); (exact (Q.refl w5).drew); rintro e wA ⟨rfl, hrA⟩; have hqA := hq5.drew.trans hrA; have hA5 := (Q.refl w5).drew.trans hrA)
            | (go_at_call 13; refine (HP.out _ ?_ ?_).mono ?_; (exact hqA); (exact hA5); rintro e wB ⟨⟨z, rfl, hz⟩, hrB⟩; have hqB := hqA.trans hrB; have hB5 := hA5.trans hrB; obtain ⟨za, zc, rfl, _, _⟩ := hz.lst.form0 (n := 0) HZ.out)
            | (go_at_call 12; refine (HS.out _ _ _ ?_ ?_).mono ?_; (exact hz.lst); (exact (HX.out _ _)); rintro e wC ⟨rfl, hrC⟩))
          all_goals go_wp2_with fail
          all_goals exact ⟨⟨j + 1, by go_num, by omega, hqB.trans hrC, hl5.q (hB5.trans hrC)⟩, by simp [intOf]; omega⟩
      · subst hkn
        have hX : ∀ (u : World) (a : Addr) (c : Nat), c ≤ 9223372036854775807 → SLst u (.slice (some a) 0 c) (P.drop k) := fun u a c h => by rw [hz0]; exact GLst.nil _ _ (some a) c (by unfold maxLen; omega) (fun h => by cases h)
        have HX := Lib.hid hX
        have HZ := Lib.hid (show (P.drop k).length = 0 by rw [hz0]; rfl)
        have hkc : (k : Int) ≤ (yc : Int) := by omega
        have hne : ¬ (yc = k) := by omega
        have hne2 : ¬ (yc - k = 0) := by omega
        clear hX hz0
        go_wp2_with fail
        go_region_with (first
          | (go_at_call 11; refine (HC.out _ ?_ ?_).mono ?_; (exact hq5.drew); (exact (Q.refl w5).drew); rintro e wA ⟨rfl, hrA⟩; have hqA := hq5.drew.trans hrA; have hA5 := (Q.refl w5).drew.trans hrA)
          | (go_at_call 13; refine (HP.out _ ?_ ?_).mono ?_; (exact hqA); (exact hA5); rintro e wB ⟨⟨z, rfl, hz⟩, hrB⟩; have hqB := hqA.trans hrB; have hB5 := hA5.trans hrB; obtain ⟨za, zc, rfl, _, _⟩ := hz.lst.form0 (n := 0) HZ.out)
          | (go_at_call 12; refine (HS.out _ _ _ ?_ ?_).mono ?_; (exact hz.lst); (exact (HX.out _ _ _ (by omega))); rintro e wC ⟨rfl, hrC⟩))
        all_goals go_wp2_with fail
        all_goals exact ⟨⟨j + 1, by go_num, by omega, hqB.trans hrC, hl5.q (hB5.trans hrC)⟩, by simp [intOf]; omega⟩
    · have hji : ¬ (j : Int) < 2 := by omega
      go_wp2_with fail
      refine (hcutn.out _).mono ?_
      rintro e w6 ⟨rfl, hr6⟩
      have hq6 := hq.trans hr6
      go_wp2_with fail
      refine (Fe.lives_any _ (he1.q hq6)).mono ?_
      rintro e w7 ⟨rfl, hr7⟩
      go_wp2_with fail
      go_ret
      exact ⟨rfl, hq1.trans (hq6.trans hr7)⟩

set_option maxRecDepth 100000 in
theorem lifted (os : Os) (started : os.Started) (H : Type) (enc : TypeId × Value → H) :
    ReturnsInHanded {} Tryd.checked os 6 .any (fun w args => (Rows.faultCutsSpec.pre enc Tryd.prog Tryd.f6 [] false w args ∧ laidMetH Tryd.prog laidL w) ∧ sizedMet enc Tryd.prog Tryd.f6 (OpenSpec.ofChange Rows.faultCutsSpec) false w args)
      (Rows.faultCutsSpec.post enc Tryd.prog Tryd.f6 false true false false) := by
  refine returnsInHanded_of_change_and (C := Tryd.checked) (X := fun w _ => laidMetH Tryd.prog laidL w) (fun _ _ _ hh h => h.of_heap hh) own started (by kernel_rfl) Tryd.func6
    (ChangeSpec.witness_at (enc := enc) (C := Tryd.checked) (os := os) (X := fun w _ => laidMetH Tryd.prog laidL w) false (laidWorld os) #[.int .i64 0, .slice none 0 0, .int .i64 0] 8 rfl (by kernel_rfl) (by kernel_rfl) (by kernel_rfl) (by kernel_rfl) (by kernel_rfl) (laidWorld_met os _)) ?_
  intro W base args ds gs before hval0 hW _ _ hL _
  have hval : ∀ (j : Nat) t v, Tryd.f6.params[j]? = some t → args[j]? = some v → Value.okWide Tryd.prog W .any base t v := hval0
  have hW' := hW
  obtain ⟨p, q, hA0, hV, rfl, hfz, hnd⟩ := hW
  have hA : DataW.TrodAll enc Tryd.prog W 0 (fun _ => true) true Tryd.f6.params.toList args.toList ds p := hA0
  rw [Tryd.params6] at hA hval
  obtain ⟨v0, vs0, d0, ds0, p0, q0, hargs, rfl, rfl, h0, r0⟩ := trodAll_cons hA
  obtain ⟨v1, vs1, d1, ds1, p1, q1, rfl, rfl, rfl, h1, r1⟩ := trodAll_cons r0
  obtain ⟨v2, vs2, d2, ds2, p2, q2, rfl, rfl, rfl, h2, r2⟩ := trodAll_cons r1
  obtain ⟨rfl, rfl, rfl⟩ := trodAll_nil r2
  obtain rfl : args = #[v0, v1, v2] := by cases args; simp_all
  obtain ⟨rfl, rfl⟩ := trodVars_none hV
  obtain ⟨a0, rfl, rfl, rfl, w0⟩ := open_int Tryd.underlying3 (hval 0 3 v0 rfl rfl) h0
  obtain ⟨a1, len1, cap1, rfl⟩ := okWide_slice Tryd.underlying22 (hval 1 22 v1 rfl rfl)
  have k1 := h1
  have lt1 : ∀ x ∈ p1, x.block < W.heap.size := by obtain ⟨m, hm⟩ := k1; exact DataW.trod_lt m _ _ _ hm
  obtain ⟨z1, w1⟩ : ∃ zs, IsTexts W a1 len1 cap1 zs := by
    obtain ⟨fuel, hf⟩ := h1
    rcases open_strings Tryd.underlying22 Tryd.underlying9 (by kernel_rfl) hf with ⟨hcs, _⟩ | ⟨x, l, c, zs, hcs, _, hl, hm, hz, _, hcell, hwz⟩
    · simp [Value.cells] at hcs
      obtain ⟨rfl, rfl, rfl⟩ := hcs
      exact ⟨[], .inl ⟨rfl, rfl, rfl, rfl⟩⟩
    · simp [Value.cells] at hcs
      obtain ⟨rfl, rfl, rfl⟩ := hcs
      exact ⟨zs, .inr ⟨_, rfl, hl, hm, by simpa using hz, hcell, hwz⟩⟩
  obtain ⟨xs1, l1, _, n1, b1⟩ := w1.lst
  obtain ⟨a2, rfl, rfl, rfl, w2⟩ := open_int Tryd.underlying3 (hval 2 3 v2 rfl rfl) h2
  clear hA0 hval0
  refine (walk W (env_of_laid hL) a0 (bounds_i64 w0) (.slice a1 len1 cap1) xs1 l1 b1 n1 a2 (bounds_i64 w2)).mono fun e W' ⟨he, bel⟩ => ?_
  subst he
  exact ⟨_, rfl, _, _, _, [], _, [], hW', trodAll_mk1 (shut_bool Tryd.underlying4 _), (trodAll_cons_mk (shut_int Tryd.underlying3 w0) (trodAll_cons_mk (Below.trod laidOut (by kernel_rfl) (of_decide_eq_true (by kernel_rfl)) k1 bel lt1) (trodAll_cons_mk (shut_int Tryd.underlying3 w2) trodAll_mk0))), rfl, bel.below.frame _, fun h => by cases h⟩

/-- The row. -/
theorem row : Rows.FaultCutsSaid :=
  OpenClaim.holds_of_wide 6 Tryd.f6 rfl rfl rfl rfl rfl rfl rfl ⟨rfl, rfl, rfl, rfl, rfl⟩ rfl rfl rfl rfl rfl (by kernel_rfl) Tryd.func6 (by kernel_rfl)
    (of_decide_eq_true (by kernel_rfl)) (by unfold Func.isWrapper; first | (rw [if_pos (by decide +kernel)]; kernel_rfl) | (rw [if_neg (by decide +kernel)]; exact ⟨rfl, rfl⟩))
    (fun os started H enc _ => lifted os started H enc)
/-- The statement: the row, tied. -/
theorem proved : Rows.FaultCutsCardSaid :=
  Claim7.holds_tied_plain_at .later [] [.data, .data, .data, .handle] true (true, "da2e50619fe1d643bec864bc4610d25edd3840a000d0e7dabf91df069dca5290") true
    row (fun _ h => by cases h) (by kernel_rfl) (fun _ h => by cases h) faultCuts_row_tie rfl ⟨rfl, rfl⟩ (by kernel_rfl) rfl
    (fun f fn hf hfn => by
      obtain rfl : f = 6 := Option.some.inj ((show Tryd.prog.funcNamed Rows.faultCutsRow.func = some 6 by kernel_rfl).symm.trans hf) |>.symm
      obtain rfl : fn = Tryd.f6 := (Option.some.inj (Tryd.func6.symm.trans hfn)).symm
      refine ⟨by kernel_rfl, fun j t ht => ?_⟩
      rw [Tryd.params6] at ht
      have h3 : t = 3 ∨ t = 22 := by
        rcases j with _ | _ | _ | _ <;> simp at ht <;> simp [← ht]
      rcases h3 with rfl | rfl
      · exact (show Tryd.prog.wantsStandIn 3 = false by kernel_rfl)
      · exact (show Tryd.prog.wantsStandIn 22 = false by kernel_rfl))
    (by kernel_rfl)
#print axioms proved
end Go.Proofs.YtfnojkcklgmoiaaDoor.faultCuts
