/- The library finds the outermost fault, with what it says: whatever the number and the texts. Condition: the package-level variables that the row lists hold at the call what the program's text lays in them (the card ties them to that text; that nothing else writes them is the translator's report, over the seat's pruned copy of the project). -/
import Derived.Test.YtfnojkcklgmoiaaDoorRows
import Derived.WalkKit
import Derived.ProofKit
import Derived.OpenShut
import Derived.ShutString
import Derived.ChangeOld
import Derived.Below
import Derived.Lib.SmallJoins
import Derived.Test.YtfnojkcklgmoiaaDoorInts
import Derived.SevenTiedAt
import Derived.Handed
import Derived.Test.YtfnojkcklgmoiaaDoorCards
import Derived.Test.YtfnojkcklgmoiaaDoorTie
import Derived.Test.YtfnojkcklgmoiaaDoorCard
import Derived.Test.YtfnojkcklgmoiaaDoorErrL
set_option linter.unusedVariables false
set_option linter.unusedSimpArgs false
namespace Go.Proofs.YtfnojkcklgmoiaaDoor.faultAs
open Go.ChangeShapes Go.WideShapes Go.ChangeAt Go.RowKit
open Go.ChangeMaps (open_string shut_string)

theorem own : ownKnob Tryd.prog.godebug = none := by kernel_rfl
theorem laidOut : laidOutB Tryd.prog = true := by kernel_rfl

/-- An error stands while a variable that holds a fault is written. -/
theorem past {w w' : World} {c : Int} {B : Nat} {cs : Array Value} {fz : Nat × Nat} (hB : w.heap[B]? = some (.cells cs 47 fz)) (hg : Gap B (B + 1) w w') : ∀ {ps : List ByteArray} {v : Value}, Fe.EV w c ps v → Fe.EV w' c ps v
  | [], _, h => h
  | _ :: _, _, ⟨b, u, hv, hb, hr, h⟩ => ⟨b, u, hv, by
      rw [hg.block b (Array.getElem?_eq_some_iff.1 hb).1 (by
        rcases Nat.lt_trichotomy b B with h1 | h1 | h1
        · exact .inl h1
        · subst h1; rw [hB] at hb; simp at hb
        · exact .inr h1)]
      exact hb, hr, past hB hg h⟩

set_option maxHeartbeats 8000000 in
set_option maxRecDepth 100000 in
theorem walk (w : World) (he : Fe.Env w) (a0 : Int) (w0 : -9223372036854775808 ≤ a0 ∧ a0 ≤ 9223372036854775807) (v1 : Value) (xs1 : List ByteArray) (w1 : SLst w v1 xs1) (b1 : ∀ s ∈ xs1, s.size ≤ maxLen) (n1 : xs1.length ≤ maxLen) (a2 : ByteArray) (w2 : a2.size ≤ maxLen) :
    Calls Tryd.prog 9 #[.int .i64 a0, v1, .string a2] w fun e w' => e = .returned (.bool true) ∧ Q w w' := by
  obtain ⟨hd0, hd1⟩ := Fe.cod_bd a0 w0.1 w0.2
  have hpl := Fe.pth_length xs1 (Fe.six xs1)
  have hpc := Fe.pth_cat xs1 (Fe.six xs1)
  have h6 : Fe.six xs1 ≤ 6 := Nat.min_le_right _ _
  have hb := Lib.hid (Fe.begin_any a0 v1 xs1 w he w1 b1 n1 w0.1 w0.2)
  have HE := Lib.hid he
  have hdn := Fe.cod_ne a0
  generalize Fe.cod a0 = d at hd0 hd1 hb hdn
  generalize Fe.pth xs1 (Fe.six xs1) = P at hpl hpc hb
  have hpl6 : P.length ≤ 6 := by omega
  have hpc72 : (cat P).length ≤ 72 := by omega
  have hpc6 : (cat P).length ≤ 1000000 := by omega
  obtain ⟨a1, c1, rfl⟩ := w1.shape
  have HN := Lib.hid hdn
  clear hpl hpc h6 hdn he w1 b1 n1
  go_enter Tryd.func9, Tryd.ntmps9
  go_wp2_with fail
  refine hb.out.mono ?_
  rintro e w1 ⟨⟨x, y, rfl, hx, hy⟩, hq1⟩
  obtain ⟨tx, vx, rfl⟩ := hx.iface
  obtain ⟨ya, yc, rfl⟩ := hy.shape
  have he1 := HE.out.q hq1
  clear hb
  have hx1 := hx
  have hy1 := hy
  go_wp2_with fail
  refine (Ur.few_any a2 12 w1 w2 (by omega)).mono ?_
  rintro e wz ⟨rfl, rfl⟩
  have hp12 := Ur.few_size a2 12
  generalize Ur.few a2 12 = p at hp12 ⊢
  have hqB : Q w1 (w1.alloc (.cells #[.pointer none] 47)) := (Q.refl w1).alloc _
  obtain ⟨B, hB⟩ : ∃ B, B = w1.heap.size := ⟨_, rfl⟩
  have hBh : (w1.alloc (.cells #[.pointer none] 47)).heap[B]? = some (.cells #[.pointer none] 47 (0, 0)) := by rw [hB]; exact heap_alloc_new w1 _
  have HBE := Lib.hid hB
  clear hB
  have hxB := hx1.q hqB
  go_wp2_with fail
  refine (Fe.wrap_any p d P _ _ hxB).mono ?_
  rintro e w3 ⟨⟨X, rfl, hX⟩, hr3⟩
  have hX0 := hX
  obtain ⟨b, u, rfl, hbh, _, hu⟩ := hX
  have hq3 : Q w1 w3 := hqB.trans hr3
  have hBh3 : w3.heap[B]? = some (.cells #[.pointer none] 47 (0, 0)) := (hr3.block (Array.getElem?_eq_some_iff.1 hBh).1).trans hBh
  have hBc : w3.cell? ⟨B, 0, none⟩ = some (.pointer none) := by rw [Lib.cell_of_heap hBh3]; rfl
  have hBf : w3.frozen? ⟨B, 0, none⟩ = false := Lib.frozen_of_heap hBh3 0
  have he3 := he1.q hq3
  rw [← HBE.out]
  go_wp2_with fail
  refine (Fe.As_fault _ B _ _ he3.handle hBc hBf).mono ?_
  rintro e w4 ⟨rfl, hg4, hc4⟩
  have hq4 : Q w1 w4 := Fe.gap_q hq3 hg4 (by rw [HBE.out]; exact Nat.le_refl _)
  have hX4 := past hBh3 hg4 hX0
  have hu4 := past hBh3 hg4 hu
  have hbB : b ≠ B := by
    intro e
    subst e
    rw [hbh] at hBh3
    simp at hBh3
  have hb4 := (hg4.block b (Array.getElem?_eq_some_iff.1 hbh).1 (by omega)).trans hbh
  have he4 := he1.q hq4
  have hy4 := hy1.q hq4
  have hB4 := hc4
  have hpc7 : (cat (p :: P)).length ≤ 1000000 := by
    have e : (cat (p :: P)).length = p.size + (cat P).length := by
      have : cat (p :: P) = p.data.toList ++ cat P := by simp [cat]
      rw [this, List.length_append, Um.size_list]
    omega
  have hpl7 : (p :: P).length ≤ 7 := by rw [List.length_cons]; omega
  have hw0 := Lib.hid hq1
  clear hX0 hbh hu hBh hBh3 hBc hBf hr3 hg4 hc4 he3 hqB hxB he1 hx1 hx hy1 hy hq3 hq1
  have cB := hB4
  have c0 : w4.cell? ⟨b, 0, none⟩ = some (.string p) := by rw [Lib.cell_of_heap hb4]; rfl
  have c1 : w4.cell? ⟨b, 1, none⟩ = some u := by rw [Lib.cell_of_heap hb4]; rfl
  go_wp2_with fail
  refine (Fe.code_any d P u _ he4.handle hu4).mono ?_
  rintro e w5 ⟨rfl, hr5⟩
  have hq5 := hq4.trans hr5
  have he5 := he4.q hr5
  have hy5 := hy4.q hr5
  have hX5 := hX4.q hr5
  have hu5 := hu4.q hr5
  have hb5 := (hr5.block (Array.getElem?_eq_some_iff.1 hb4).1).trans hb4
  have hB5 := (World.cell?_of_block (w := w4) (a := ⟨B, 0, none⟩) (hr5.block (World.block_lt_of_cell? _ _ hB4))).trans hB4
  clear cB c0 c1
  have cB := hB5
  go_wp2_with fail
  refine (Fe.unwrap_any b p u _ hb5).mono ?_
  rintro e wz ⟨rfl, hwz⟩
  rw [hwz]
  clear cB hwz
  go_wp2_with fail
  refine (Fe.path_any d P u _ he5.handle hu5 (by omega)).mono ?_
  rintro e w6 ⟨⟨z, rfl, hz⟩, hr6⟩
  have hq6 := hq5.trans hr6
  have he6 := he5.q hr6
  have hy6 := hy5.q hr6
  have hX6 := hX5.q hr6
  have hu6 := hu5.q hr6
  have hb6 := (hr6.block (Array.getElem?_eq_some_iff.1 hb5).1).trans hb5
  have hB6 := (World.cell?_of_block (w := w5) (a := ⟨B, 0, none⟩) (hr6.block (World.block_lt_of_cell? _ _ hB5))).trans hB5
  obtain ⟨za, zc, rfl⟩ := hz.shape
  go_wp2_with fail
  refine (Gr.sames_any _ _ P P _ hz.lst hy6 (by omega) (by omega)).mono ?_
  rintro e w7 ⟨rfl, hr7⟩
  have hq7 := hq6.trans hr7
  have he7 := he6.q hr7
  have hy7 := hy6.q hr7
  have hX7 := hX6.q hr7
  have hu7 := hu6.q hr7
  have hb7 := (hr7.block (Array.getElem?_eq_some_iff.1 hb6).1).trans hb6
  have hB7 := (World.cell?_of_block (w := w6) (a := ⟨B, 0, none⟩) (hr7.block (World.block_lt_of_cell? _ _ hB6))).trans hB6
  rw [decide_eq_true (rfl : P = P)]
  clear hz
  have cB := hB7
  go_wp2_with fail
  refine (Fe.error_any d b (p :: P) _ he7 hX7 hd0 hd1 (by omega) hpc7).mono ?_
  rintro e w8 ⟨rfl, hr8⟩
  have hq8 := hq7.trans hr8
  have he8 := he7.q hr8
  have hy8 := hy7.q hr8
  have hX8 := hX7.q hr8
  have hu8 := hu7.q hr8
  have hb8 := (hr8.block (Array.getElem?_eq_some_iff.1 hb7).1).trans hb7
  have hB8 := (World.cell?_of_block (w := w7) (a := ⟨B, 0, none⟩) (hr8.block (World.block_lt_of_cell? _ _ hB7))).trans hB7
  clear cB
  go_wp2_with fail
  refine (Fe.front_any p _ P _ hy8 (by omega)).mono ?_
  rintro e w9 ⟨⟨z2, rfl, hz2⟩, hr9⟩
  have hq9 := hq8.trans hr9
  have he9 := he8.q hr9
  have hy9 := hy8.q hr9
  have hX9 := hX8.q hr9
  have hu9 := hu8.q hr9
  have hb9 := (hr9.block (Array.getElem?_eq_some_iff.1 hb8).1).trans hb8
  have hB9 := (World.cell?_of_block (w := w8) (a := ⟨B, 0, none⟩) (hr9.block (World.block_lt_of_cell? _ _ hB8))).trans hB8
  obtain ⟨ua, uc, rfl⟩ := hz2.shape
  go_wp2_with fail
  refine (Fe.rtext_any _ (p :: P) d _ hz2.lst hd0 hd1 (by omega) hpc7).mono ?_
  rintro e w10 ⟨rfl, hr10⟩
  have hq10 := hq9.trans hr10
  have he10 := he9.q hr10
  have hy10 := hy9.q hr10
  have hX10 := hX9.q hr10
  have hu10 := hu9.q hr10
  have hb10 := (hr10.block (Array.getElem?_eq_some_iff.1 hb9).1).trans hb9
  have hB10 := (World.cell?_of_block (w := w9) (a := ⟨B, 0, none⟩) (hr10.block (World.block_lt_of_cell? _ _ hB9))).trans hB9
  generalize Fe.told (p :: P) d = T
  go_wp2_with fail
  refine (Fe.lives_any _ he10).mono ?_
  rintro e w11 ⟨rfl, hr11⟩
  have hq11 := hq10.trans hr11
  have he11 := he10.q hr11
  have hy11 := hy10.q hr11
  have hX11 := hX10.q hr11
  have hu11 := hu10.q hr11
  have hb11 := (hr11.block (Array.getElem?_eq_some_iff.1 hb10).1).trans hb10
  have hB11 := (World.cell?_of_block (w := w10) (a := ⟨B, 0, none⟩) (hr11.block (World.block_lt_of_cell? _ _ hB10))).trans hB10
  go_wp2_with fail
  go_ret
  exact ⟨rfl, hw0.out.trans hq11⟩

set_option maxRecDepth 100000 in
theorem lifted (os : Os) (started : os.Started) (H : Type) (enc : TypeId × Value → H) :
    ReturnsInHanded {} Tryd.checked os 9 .any (fun w args => (Rows.faultAsSpec.pre enc Tryd.prog Tryd.f9 [] false w args ∧ laidMetH Tryd.prog laidL w) ∧ sizedMet enc Tryd.prog Tryd.f9 (OpenSpec.ofChange Rows.faultAsSpec) false w args)
      (Rows.faultAsSpec.post enc Tryd.prog Tryd.f9 false true false false) := by
  refine returnsInHanded_of_change_and (C := Tryd.checked) (X := fun w _ => laidMetH Tryd.prog laidL w) (fun _ _ _ hh h => h.of_heap hh) own started (by kernel_rfl) Tryd.func9
    (ChangeSpec.witness_at (enc := enc) (C := Tryd.checked) (os := os) (X := fun w _ => laidMetH Tryd.prog laidL w) false (laidWorld os) #[.int .i64 0, .slice none 0 0, .string ByteArray.empty] 8 rfl (by kernel_rfl) (by kernel_rfl) (by kernel_rfl) (by kernel_rfl) (by kernel_rfl) (laidWorld_met os _)) ?_
  intro W base args ds gs before hval0 hW _ _ hL _
  have hval : ∀ (j : Nat) t v, Tryd.f9.params[j]? = some t → args[j]? = some v → Value.okWide Tryd.prog W .any base t v := hval0
  have hW' := hW
  obtain ⟨p, q, hA0, hV, rfl, hfz, hnd⟩ := hW
  have hA : DataW.TrodAll enc Tryd.prog W 0 (fun _ => true) true Tryd.f9.params.toList args.toList ds p := hA0
  rw [Tryd.params9] at hA hval
  obtain ⟨v0, vs0, d0, ds0, p0, q0, hargs, rfl, rfl, h0, r0⟩ := trodAll_cons hA
  obtain ⟨v1, vs1, d1, ds1, p1, q1, rfl, rfl, rfl, h1, r1⟩ := trodAll_cons r0
  obtain ⟨v2, vs2, d2, ds2, p2, q2, rfl, rfl, rfl, h2, r2⟩ := trodAll_cons r1
  obtain ⟨rfl, rfl, rfl⟩ := trodAll_nil r2
  obtain rfl : args = #[v0, v1, v2] := by cases args; simp_all
  obtain ⟨rfl, rfl⟩ := trodVars_none hV
  obtain ⟨a0, rfl, rfl, rfl, w0⟩ := open_int Tryd.underlying3 (hval 0 3 v0 rfl rfl) h0
  obtain ⟨a1, len1, cap1, rfl⟩ := okWide_slice Tryd.underlying22 (hval 1 22 v1 rfl rfl)
  have k1 := h1
  have lt1 : ∀ x ∈ p1, x.block < W.heap.size := by obtain ⟨m, hm⟩ := k1; exact DataW.trod_lt m _ _ _ hm
  obtain ⟨z1, w1⟩ : ∃ zs, IsTexts W a1 len1 cap1 zs := by
    obtain ⟨fuel, hf⟩ := h1
    rcases open_strings Tryd.underlying22 Tryd.underlying9 (by kernel_rfl) hf with ⟨hcs, _⟩ | ⟨x, l, c, zs, hcs, _, hl, hm, hz, _, hcell, hwz⟩
    · simp [Value.cells] at hcs
      obtain ⟨rfl, rfl, rfl⟩ := hcs
      exact ⟨[], .inl ⟨rfl, rfl, rfl, rfl⟩⟩
    · simp [Value.cells] at hcs
      obtain ⟨rfl, rfl, rfl⟩ := hcs
      exact ⟨zs, .inr ⟨_, rfl, hl, hm, by simpa using hz, hcell, hwz⟩⟩
  obtain ⟨xs1, l1, _, n1, b1⟩ := w1.lst
  obtain ⟨a2, rfl, rfl, rfl, w2⟩ := open_string Tryd.underlying9 (hval 2 9 v2 rfl rfl) h2
  clear hA0 hval0
  refine (walk W (env_of_laid hL) a0 (bounds_i64 w0) (.slice a1 len1 cap1) xs1 l1 b1 n1 a2 w2).mono fun e W' ⟨he, bel⟩ => ?_
  subst he
  exact ⟨_, rfl, _, _, _, [], _, [], hW', trodAll_mk1 (shut_bool Tryd.underlying4 _), (trodAll_cons_mk (shut_int Tryd.underlying3 w0) (trodAll_cons_mk (Below.trod laidOut (by kernel_rfl) (of_decide_eq_true (by kernel_rfl)) k1 bel lt1) (trodAll_cons_mk (shut_string Tryd.underlying9 w2) trodAll_mk0))), rfl, bel.below.frame _, fun h => by cases h⟩

/-- The row. -/
theorem row : Rows.FaultAsSaid :=
  OpenClaim.holds_of_wide 9 Tryd.f9 rfl rfl rfl rfl rfl rfl rfl ⟨rfl, rfl, rfl, rfl, rfl⟩ rfl rfl rfl rfl rfl (by kernel_rfl) Tryd.func9 (by kernel_rfl)
    (of_decide_eq_true (by kernel_rfl)) (by unfold Func.isWrapper; first | (rw [if_pos (by decide +kernel)]; kernel_rfl) | (rw [if_neg (by decide +kernel)]; exact ⟨rfl, rfl⟩))
    (fun os started H enc _ => lifted os started H enc)
/-- The statement: the row, tied. -/
theorem proved : Rows.FaultAsCardSaid :=
  Claim7.holds_tied_plain_at .later [] [.data, .data, .data, .handle] true (true, "da2e50619fe1d643bec864bc4610d25edd3840a000d0e7dabf91df069dca5290") true
    row (fun _ h => by cases h) (by kernel_rfl) (fun _ h => by cases h) faultAs_row_tie rfl ⟨rfl, rfl⟩ (by kernel_rfl) rfl
    (fun f fn hf hfn => by
      obtain rfl : f = 9 := Option.some.inj ((show Tryd.prog.funcNamed Rows.faultAsRow.func = some 9 by kernel_rfl).symm.trans hf) |>.symm
      obtain rfl : fn = Tryd.f9 := (Option.some.inj (Tryd.func9.symm.trans hfn)).symm
      refine ⟨by kernel_rfl, fun j t ht => ?_⟩
      rw [Tryd.params9] at ht
      have h3 : t = 3 ∨ t = 9 ∨ t = 22 := by
        rcases j with _ | _ | _ | _ <;> simp at ht <;> simp [← ht]
      rcases h3 with rfl | rfl | rfl
      · exact (show Tryd.prog.wantsStandIn 3 = false by kernel_rfl)
      · exact (show Tryd.prog.wantsStandIn 9 = false by kernel_rfl)
      · exact (show Tryd.prog.wantsStandIn 22 = false by kernel_rfl))
    (by kernel_rfl)
#print axioms proved
end Go.Proofs.YtfnojkcklgmoiaaDoor.faultAs
