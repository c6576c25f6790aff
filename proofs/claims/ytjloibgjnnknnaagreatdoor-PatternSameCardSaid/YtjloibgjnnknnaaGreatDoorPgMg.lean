/- The law PatternSame, with what stands right below it, as one text. Our own work. -/
import Derived.Test.YtjloibgjnnknnaaGreatDoorRows
import Derived.Test.YtjloibgjnnknnaaGreatDoorInts
import Derived.Test.YtjloibgjnnknnaaGreatDoorPcs
import Derived.ChangeOld
import Derived.OpenShut
import Derived.Below
import Derived.Lib.SmallJoins
import Derived.Deep.SlicePairs
import Derived.Deep.Cut
import Derived.Deep.DeepCutAuto
import Derived.Test.YtjloibgjnnknnaaGreatDoorUtfM
import Derived.Test.YtjloibgjnnknnaaGreatDoorUtfW
import Derived.Test.YtjloibgjnnknnaaGreatDoorBlk
import Derived.Test.YtjloibgjnnknnaaGreatDoorPatM
import Derived.Test.YtjloibgjnnknnaaGreatDoorPatN
import Derived.Test.YtjloibgjnnknnaaGreatDoorPgA
import Derived.Test.YtjloibgjnnknnaaGreatDoorPgJ
import Derived.Test.YtjloibgjnnknnaaGreatDoorPgO
import Derived.Test.YtjloibgjnnknnaaGreatDoorPgP
import Derived.Test.YtjloibgjnnknnaaGreatDoorPgQ
import Derived.Test.YtjloibgjnnknnaaGreatDoorPgR
import Derived.Test.YtjloibgjnnknnaaGreatDoorPgS
import Derived.Deep.QuietTactic
import Derived.BigQuiet
import Derived.Deep.RegionHeld3
import Derived.Test.YtjloibgjnnknnaaGreatDoorPgF
import Derived.Test.YtjloibgjnnknnaaGreatDoorPgL
import Derived.Test.YtjloibgjnnknnaaGreatDoorTxM
import Derived.Test.YtjloibgjnnknnaaGreatDoorUtfG
import Derived.Test.YtjloibgjnnknnaaGreatDoorUtfR
import Derived.Test.YtjloibgjnnknnaaGreatDoorSto
import Derived.Test.YtjloibgjnnknnaaGreatDoorPatW
import Derived.Test.YtjloibgjnnknnaaGreatDoorPatX
import Derived.Test.YtjloibgjnnknnaaGreatDoorPatK
import Derived.Test.YtjloibgjnnknnaaGreatDoorPgX
/-! FrG -/
set_option linter.unusedVariables false
set_option linter.unusedSimpArgs false
namespace Go.Proofs.YtjloibgjnnknnaaGreatDoor
open Go.ChangeShapes Go.WideShapes Go.RowKit Go.Deep
namespace FrG
section
variable {H : Type} {enc : TypeId × Value → H} {P : Program} {w : World} {base : Nat} {spare : Nat → Bool} {held : Bool}
theorem open_fields {r : Reach} {b0 : Nat} {t : TypeId} {fs : Array Field} {v : Value} {d : DataW H} {p : List MemPlace} (hs : P.underlying t = some (.struct fs)) (hone : oneCellFields P fs = true) (hC : P.cellsOf t = fs.size)
    (hv : Value.okWide P w r b0 t v) (h : DataW.Trod enc P w base spare held t v d p) :
    ∃ cs : Array Value, v = .agg cs ∧ cs.size = fs.size ∧ ∀ (i : Nat) (f : Field) (c : Value), fs[i]? = some f → cs[i]? = some c → ∃ n y, DataW.trod enc P w base spare held n f.type ([c] : List Value) = some y := by
  obtain ⟨cs, rfl, hsz⟩ := okWide_struct hs hv
  obtain ⟨fuel, hf⟩ := h
  obtain ⟨xs, n, _, _, _, hxl, hx⟩ := DataW.trod_struct hs hf
  refine ⟨cs, rfl, hsz.trans hC, fun i f c hfi hci => ?_⟩
  obtain ⟨o, k⟩ := hone_of hone i f hfi
  have h1 := hx i f hfi
  rw [o, k] at h1
  have hi : i < fs.size := (Array.getElem?_eq_some_iff.1 hfi).1
  have h2 : ((Value.agg cs).cells.toList.drop i).take 1 = [c] := by
    have h3 : cs.toList[i]? = some c := by simpa using hci
    have h4 : (cs.toList.drop i).take 1 = [c] := by
      obtain ⟨hlt, he⟩ := List.getElem?_eq_some_iff.1 h3
      rw [List.drop_eq_getElem_cons hlt, he]; rfl
    simpa [Value.cells] using h4
  rw [h2] at h1
  obtain ⟨y, hy⟩ : ∃ y, xs[i]? = some y := ⟨xs[i]'(by omega), List.getElem?_eq_getElem (by omega)⟩
  exact ⟨n, y, h1.trans hy⟩
end
theorem arr10 {cs : Array Value} (h : cs.size = 10) : ∃ a b c d e f g h i j, cs = #[a, b, c, d, e, f, g, h, i, j] := by
  obtain ⟨l⟩ := cs
  match l, h with
  | [a, b, c, d, e, f, g, h, i, j], _ => exact ⟨a, b, c, d, e, f, g, h, i, j, rfl⟩
theorem lst_of {H : Type} {enc : TypeId × Value → H} {P : Program} {W : World} {held : Bool} {t e : TypeId} (h1 : P.underlying t = some (.slice e)) (h2 : P.underlying e = some (.int .i64)) (h3 : P.cellsOf e = 1) {c : Value}
    (h : ∃ n y, DataW.trod enc P W 0 (fun _ => true) held n t [c] = some y) : ∃ xs, Lst W c xs ∧ ∀ n ∈ xs, -9223372036854775808 ≤ n ∧ n ≤ 9223372036854775807 := by
  obtain ⟨n, y, h⟩ := h
  rcases open_ints h1 h2 h3 h with ⟨hcs, _⟩ | ⟨x, l, c', zs, hcs, _, hl, hm, hz, _, hcell, hwz⟩
  · obtain rfl : c = .slice none 0 0 := by simpa using hcs
    exact ⟨[], .nil _ _ _ (by unfold maxLen; omega) (fun _ => rfl), by simp⟩
  · obtain rfl : c = .slice (some x) l c' := by simpa using hcs
    obtain ⟨xs, hx, _, hb⟩ := IsRow.lst (w := W) (.inr ⟨_, rfl, hl, hm, by simpa using hz, hcell, hwz⟩)
    exact ⟨xs, hx, hb⟩
theorem bool_of {H : Type} {enc : TypeId × Value → H} {P : Program} {W : World} {held : Bool} {t : TypeId} (h1 : P.underlying t = some .bool) {c : Value}
    (h : ∃ n y, DataW.trod enc P W 0 (fun _ => true) held n t [c] = some y) : ∃ b, c = .bool b := by
  obtain ⟨n, y, h⟩ := h
  obtain ⟨b, h, _⟩ := DataW.trod_bool h1 h
  exact ⟨b, by simpa using h⟩
theorem int_of {H : Type} {enc : TypeId × Value → H} {P : Program} {W : World} {held : Bool} {t : TypeId} (h1 : P.underlying t = some (.int .i64)) {c : Value}
    (h : ∃ n y, DataW.trod enc P W 0 (fun _ => true) held n t [c] = some y) : ∃ i, c = .int .i64 i ∧ -9223372036854775808 ≤ i ∧ i ≤ 9223372036854775807 := by
  obtain ⟨n, y, h⟩ := h
  obtain ⟨i, h, _, hw⟩ := DataW.trod_int h1 h
  exact ⟨i, by simpa using h, bounds_i64 hw⟩
/-- A list of pieces that came in. -/
theorem pieces_of {H : Type} {enc : TypeId × Value → H} {P : Program} {W : World} {held : Bool} {t e : TypeId} {f0 f1 : Field} (h1 : P.underlying t = some (.slice e)) (h2 : P.underlying e = some (.struct #[f0, f1]))
    (ce : P.cellsOf e = 2) (o0 : f0.offset = 0) (o1 : f1.offset = 1) (c0 : P.cellsOf f0.type = 1) (c1 : P.cellsOf f1.type = 1) (i0 : P.underlying f0.type = some (.int .i64)) (s1 : P.underlying f1.type = some .string) {c : Value}
    (h : ∃ n y, DataW.trod enc P W 0 (fun _ => true) held n t [c] = some y) :
    ∃ l : List Pc.E, Pc.LstP W c l ∧ ∀ x ∈ l, -9223372036854775808 ≤ x.1 ∧ x.1 ≤ 9223372036854775807 ∧ x.2.length ≤ maxLen := by
  obtain ⟨n, y, h⟩ := h
  rcases Deep.open_slice_pairs h1 h2 ce o0 o1 c0 c1 h with ⟨hcs, _⟩ | ⟨a, len, cap, m, n, V0, V1, D0, D1, P0, P1, hcs, _, hl, hm, hmm, _, hx⟩
  · obtain rfl : c = .slice none 0 0 := by simpa using hcs
    exact ⟨[], .nil _ _ _ (by unfold maxLen; omega) (fun _ => rfl), by simp⟩
  · obtain rfl : c = .slice (some a) len cap := by simpa using hcs
    have hmc : m = cap := by simpa using hmm
    have each : ∀ i, i < len → ∃ q : Int × List UInt8, (-9223372036854775808 ≤ q.1 ∧ q.1 ≤ 9223372036854775807 ∧ q.2.length ≤ maxLen) ∧ W.cell? (a.add (i * 2)) = some (.int .i64 q.1) ∧ W.cell? (a.add (i * 2 + 1)) = some (.string ⟨q.2.toArray⟩) := by
      intro i hi
      obtain ⟨g0, g1, g2, g3⟩ := hx i (by omega)
      obtain ⟨k, hk, hb1, hb2⟩ := int_of i0 ⟨_, _, g2⟩
      obtain ⟨s, hs, _, hsz⟩ := DataW.trod_string s1 g3
      refine ⟨(k, s.data.toList), ⟨hb1, hb2, ?_⟩, by rw [g0, hk], ?_⟩
      · show s.data.toList.length ≤ maxLen
        rw [Array.length_toList]; exact hsz
      · rw [g1]
        have : V1 i = .string s := by simpa using hs
        rw [this]
    by_cases h0 : len = 0
    · subst h0
      exact ⟨[], .nil _ _ _ (by omega) (fun h => by cases h), by simp⟩
    obtain ⟨q, hq⟩ := Deep.choose_lt each
    obtain ⟨b, off, spot⟩ := a
    have hspot : spot = none := by simpa [Addr.add] using World.cell?_spot (hq 0 (by omega)).2.1
    subst hspot
    refine ⟨(List.range len).map q, .inr ⟨b, off, cap, by simp, ?_, by simpa using hl, hm, fun i hi => ?_⟩, fun x hx => ?_⟩
    · exact World.block_lt_of_cell? _ _ (hq 0 (by omega)).2.1
    · have hi' : i < len := by simpa using hi
      have hg : ((List.range len).map q).getD i (0, []) = q i := by rw [List.getD_eq_getElem?_getD]; simp [hi']
      rw [hg]
      have := (hq i hi').2
      simpa [Go.WideShapes.add_plain, Nat.add_assoc, Pc.txt] using this
    · obtain ⟨i, hi, rfl⟩ := List.mem_map.1 hx
      exact (hq i (List.mem_range.1 hi)).1
end FrG
end Go.Proofs.YtjloibgjnnknnaaGreatDoor
/-! PgL2 -/
set_option linter.unusedVariables false
set_option linter.unusedSimpArgs false
namespace Go.Proofs.YtjloibgjnnknnaaGreatDoor
open Go.RowKit
namespace Pg
open Pt Um

def liv1 : List Int := [35, 44, 35, 35, 48, 46, 48, 48, 32, 120]
def liv2 : List Int := [40, 48, 41]
theorem liv1_parse (w : World) : Calls Tryz.prog 4 #[.string ⟨#[35, 44, 35, 35, 48, 46, 48, 48, 32, 120]⟩] w fun e w' => ∃ v, e = .returned (.tuple #[v, .int .i64 0]) ∧ PV w' w.heap.size v ⟨[], [(0, [32, 120])], [(3, [])], [(0, [32, 120])], 3, 3, 1, 2, 2⟩ ∧ Q w w' := by
  have h := parse1 (cs := liv1) (by decide +kernel) (by decide +kernel) (P := []) (N := [(4, 35), (4, 44), (4, 35), (4, 35), (4, 48), (4, 46), (4, 48), (4, 48)]) (S := [(0, 32), (0, 120)]) (c := false) (by decide +kernel)
    ⟨(fun x hx => by cases hx), (by unfold okT; decide +kernel), (by decide +kernel)⟩ (by decide +kernel) (by decide +kernel) (by decide +kernel) w
  rw [show (parseC liv1).1 = ⟨[], [(0, [32, 120])], [(3, [])], [(0, [32, 120])], 3, 3, 1, 2, 2⟩ by decide +kernel, show joinL liv1 = [35, 44, 35, 35, 48, 46, 48, 48, 32, 120] by decide +kernel] at h
  exact h
theorem liv2_parse (w : World) : Calls Tryz.prog 4 #[.string ⟨#[40, 48, 41]⟩] w fun e w' => ∃ v, e = .returned (.tuple #[v, .int .i64 0]) ∧ PV w' w.heap.size v ⟨lits [[40]], lits [[41]], (3, []) :: lits [[40]], lits [[41]], 0, 0, 1, 0, 0⟩ ∧ Q w w' := by
  have h := parse1 (cs := liv2) (by decide +kernel) (by decide +kernel) (P := [(0, 40)]) (N := [(4, 48)]) (S := [(0, 41)]) (c := false) (by decide +kernel)
    ⟨(by unfold okT; decide +kernel), (by unfold okT; decide +kernel), (by decide +kernel)⟩ (by decide +kernel) (by decide +kernel) (by decide +kernel) w
  rw [show (parseC liv2).1 = ⟨lits [[40]], lits [[41]], (3, []) :: lits [[40]], lits [[41]], 0, 0, 1, 0, 0⟩ by decide +kernel, show joinL liv2 = [40, 48, 41] by decide +kernel] at h
  exact h
theorem liv2_print (v : Value) (B : Nat) (w : World) (hv : PV w B v ⟨lits [[40]], lits [[41]], (3, []) :: lits [[40]], lits [[41]], 0, 0, 1, 0, 0⟩) :
    Calls Tryz.prog 19 #[v] w fun e w' => e = .returned (.string ⟨#[40, 48, 41]⟩) ∧ Q w w' := by
  have h := print_any v B [[40]] [[41]] 1 (.inr rfl) w hv (by decide) (by decide) (by decide +kernel) (by decide +kernel)
  rw [show joinL ([[40]].flatMap (prS []) ++ [if (1 : Int) = 1 then 48 else 35] ++ [[41]].flatMap (prS [])) = [40, 48, 41] by decide +kernel] at h
  exact h
theorem eq_liv : ((⟨#[40, 48, 41]⟩ : ByteArray) == ⟨#[40, 48, 41]⟩) = true := by decide +kernel

set_option maxHeartbeats 2000000 in
set_option maxRecDepth 100000 in
theorem lives_any (w : World) : Calls Tryz.prog 9 #[] w fun e w' => e = .returned (.bool true) ∧ Q w w' := by
  have H1 := Lib.hid liv1_parse
  have H2 := Lib.hid liv2_parse
  go_enter Tryz.func9, Tryz.ntmps9
  go_wp2_with fail
  refine (H1.out _).mono ?_
  rintro e w1 ⟨v1, rfl, ⟨a, b, c, d, rfl, ha, hb, hc, hd⟩, hq1⟩
  obtain ⟨a1, a2, rfl, _, _⟩ := ha.1.form0 rfl
  obtain ⟨b1, b2, rfl, _, _⟩ := hb.1.form0 rfl
  obtain ⟨c1, c2, rfl, _, _⟩ := hc.1.form0 rfl
  obtain ⟨d1, d2, rfl, _, _⟩ := hd.1.form0 rfl
  have HQ1 := Lib.hid hq1
  clear hq1 ha hb hc hd
  have HB1 := Lib.hid (Bk.new w1 28 [.slice a1 0 a2, .slice b1 1 b2, .slice c1 1 c2, .slice d1 1 d2, .int .i64 3, .int .i64 3, .int .i64 1, .int .i64 2, .int .i64 2])
  have HQ2 := Lib.hid (HQ1.out.alloc (.cells #[.slice a1 0 a2, .slice b1 1 b2, .slice c1 1 c2, .slice d1 1 d2, .int .i64 3, .int .i64 3, .int .i64 1, .int .i64 2, .int .i64 2] 28))
  go_wp2_with fail
  refine (H2.out _).mono ?_
  rintro e w2 ⟨v2, rfl, hpv, hq2⟩
  have HPV := Lib.hid hpv
  obtain ⟨a, b, c, d, rfl, ha, hb, hc, hd⟩ := hpv
  obtain ⟨e1, e2, rfl, _, _⟩ := ha.1.form0 (show (lits [[40]]).length = 1 from rfl)
  obtain ⟨f1, f2, rfl, _, _⟩ := hb.1.form0 (show (lits [[41]]).length = 1 from rfl)
  obtain ⟨g1, g2, rfl, _, _⟩ := hc.1.form0 (show ((3, []) :: lits [[40]] : List Pc.E).length = 2 from rfl)
  obtain ⟨h1, h2, rfl, _, _⟩ := hd.1.form0 (show (lits [[41]]).length = 1 from rfl)
  have k1 := HB1.out.q (hq2.alloc (.cells #[.slice e1 1 e2, .slice f1 1 f2, .slice g1 2 g2, .slice h1 1 h2, .int .i64 0, .int .i64 0, .int .i64 1, .int .i64 0, .int .i64 0] 28))
  have p4 := k1.cell 4 rfl
  have p6 := k1.cell 6 rfl
  have p7 := k1.cell 7 rfl
  have k2 := Bk.new w2 28 [.slice e1 1 e2, .slice f1 1 f2, .slice g1 2 g2, .slice h1 1 h2, .int .i64 0, .int .i64 0, .int .i64 1, .int .i64 0, .int .i64 0]
  have p20 := k2.cell 0 rfl
  have p21 := k2.cell 1 rfl
  have p22 := k2.cell 2 rfl
  have p23 := k2.cell 3 rfl
  have p24 := k2.cell 4 rfl
  have p25 := k2.cell 5 rfl
  have p26 := k2.cell 6 rfl
  have p27 := k2.cell 7 rfl
  have p28 := k2.cell 8 rfl
  have HQ3 := Lib.hid (HQ2.out.trans (hq2.alloc (.cells #[.slice e1 1 e2, .slice f1 1 f2, .slice g1 2 g2, .slice h1 1 h2, .int .i64 0, .int .i64 0, .int .i64 1, .int .i64 0, .int .i64 0] 28)))
  have HP := Lib.hid (liv2_print _ _ _ (HPV.out.q ((Q.refl w2).alloc (.cells #[.slice e1 1 e2, .slice f1 1 f2, .slice g1 2 g2, .slice h1 1 h2, .int .i64 0, .int .i64 0, .int .i64 1, .int .i64 0, .int .i64 0] 28))))
  clear ha hb hc hd k1 k2 hq2 HPV
  go_wp2_with fail
  refine (HP.out).mono ?_
  rintro e w3 ⟨rfl, hq3⟩
  have HQ4 := Lib.hid (HQ3.out.trans hq3)
  have he := eq_liv
  clear hq3
  go_wp2_with fail
  go_ret
  exact ⟨rfl, HQ4.out⟩
end Pg
end Go.Proofs.YtjloibgjnnknnaaGreatDoor
/-! PgT -/
namespace Go.Proofs.YtjloibgjnnknnaaGreatDoor
namespace Pg
open Pt Um
set_option maxRecDepth 100000 in
theorem nmT_pr : ∀ z, z < 7 → ∀ p, p < 5 → ∀ q, q < 5 → ∀ a, a < 4 → ∀ b, b < 4 → okPr (nmT z p q a b) = true := by decide +kernel
theorem pr_one : okPr [35] = true := by decide +kernel
theorem pr_zero : okPr [48] = true := by decide +kernel
theorem nmT_okPr {z p q a b : Nat} (hz : z < 7) (hp : p < 5) (hq : q < 5) (ha : a < 4) (hb : b < 4) : okPr (nmT z p q a b) = true := nmT_pr z hz p hp q hq a ha b hb
end Pg
end Go.Proofs.YtjloibgjnnknnaaGreatDoor
/-! PgY -/
set_option linter.unusedVariables false
set_option linter.unusedSimpArgs false
namespace Go.Proofs.YtjloibgjnnknnaaGreatDoor
open Go.RowKit
namespace Pg
open Pt Um Tx

theorem out_len (cs : List Int) : ∀ q p l q' p', outS q p cs = some (l, q', p') → l.length ≤ cs.length := by
  induction cs with
  | nil => intro q p l q' p' h; simp [outS] at h; obtain ⟨rfl, _⟩ := h; simp
  | cons c r ih =>
    intro q p l q' p' h
    rw [outS_cons] at h
    split at h
    · split at h
      · obtain ⟨⟨m, a, b⟩, hm, he⟩ := Option.map_eq_some_iff.1 h
        simp only [Prod.mk.injEq] at he
        obtain ⟨rfl, rfl, rfl⟩ := he
        have := ih _ _ _ _ _ hm
        simp only [List.length_cons]; omega
      · have := ih _ _ _ _ _ h
        simp only [List.length_cons]; omega
    · split at h
      · obtain ⟨⟨m, a, b⟩, hm, he⟩ := Option.map_eq_some_iff.1 h
        simp only [Prod.mk.injEq] at he
        obtain ⟨rfl, rfl, rfl⟩ := he
        have := ih _ _ _ _ _ hm
        simp only [List.length_cons]; omega
      · split at h
        · cases h
        · obtain ⟨⟨m, a, b⟩, hm, he⟩ := Option.map_eq_some_iff.1 h
          simp only [Prod.mk.injEq] at he
          obtain ⟨rfl, rfl, rfl⟩ := he
          have := ih _ _ _ _ _ hm
          simp only [List.length_cons]; omega
theorem sgn_vl : ∀ x, x < 10 → ∀ c ∈ sgn.getD x [], vld c = true := by decide +kernel
theorem sgL_vl (l : List Int) : Vl (sgL l) := by
  intro c hc
  unfold sgL at hc
  obtain ⟨n, _, hn⟩ := List.mem_flatMap.1 hc
  have hb := around_bd n 10 (by decide)
  exact sgn_vl _ (by omega) c hn
theorem nmB_vl {c : Int} (h : nmB c = true) : vld c = true := by
  simp only [nmB, Bool.or_eq_true, beq_iff_eq] at h
  rcases h with ((rfl | rfl) | rfl) | rfl <;> decide +kernel
theorem vl_app {a b : List Int} (ha : Vl a) (hb : Vl b) : Vl (a ++ b) := fun c hc => by
  rcases List.mem_append.1 hc with h | h
  · exact ha c h
  · exact hb c h
theorem hfT_vl (pre suf : List Int) {z p q a b : Nat} (hz : z < 7) (hp : p < 5) (hq : q < 5) (ha : a < 4) (hb : b < 4) : Vl (hfT pre suf z p q a b) ∧ (hfT pre suf z p q a b).length ≤ 100 := by
  obtain ⟨_, h2, _, h4⟩ := nmT_ok hz hp hq ha hb
  refine ⟨?_, ?_⟩
  · unfold hfT
    exact vl_app (vl_app (sgL_vl _) fun c hc => nmB_vl (h2 c hc)) (sgL_vl _)
  · have h1 := sgL_len pre
    have h3 := sgL_len suf
    unfold hfT
    rw [List.length_append, List.length_append]
    omega
theorem sB_joinL {L : List Int} (h : Vl L) : sB L = ⟨(joinL L).toArray⟩ := by unfold sB; rw [joinL_encL L h]
theorem lenPNS {P N S : List (Int × Int)} {k : Nat} (h : (P ++ N ++ S).length ≤ k) : (joinT [] P).length ≤ k ∧ (joinT [] S).length ≤ k ∧ N.length ≤ k := by
  have h1 := joinT_le P
  have h2 := joinT_le S
  simp only [List.length_append] at h
  omega
/-- One half, parsed. -/
theorem ph1 (pre suf : List Int) {z p q a b : Nat} (hz : z < 7) (hp : p < 5) (hq : q < 5) (ha : a < 4) (hb : b < 4) (w : World) :
    Calls Tryz.prog 4 #[.string (sB (hfT pre suf z p q a b))] w fun e w' => ∃ v, e = .returned (.tuple #[v, .int .i64 0]) ∧ PV w' w.heap.size v (parseC (hfT pre suf z p q a b)).1 ∧ Q w w' := by
  obtain ⟨P, N, S, c, ho, hv, hN, hN1⟩ := hfT_out pre suf hz hp hq ha hb
  obtain ⟨h1, h2⟩ := hfT_vl pre suf hz hp hq ha hb
  have hl := out_len _ _ _ _ _ _ ho
  obtain ⟨_, _, h3⟩ := lenPNS (Nat.le_trans hl h2)
  rw [sB_joinL h1]
  exact parse1 h1 (by omega) ho hv hN1 (by omega) (by rw [hN]; exact nmT_okPr hz hp hq ha hb) w
theorem ps1 (pre suf : List Int) {z p q a b : Nat} (hz : z < 7) (hp : p < 5) (hq : q < 5) (ha : a < 4) (hb : b < 4) :
    PS (parseC (hfT pre suf z p q a b)).1 ∧ (parseC (hfT pre suf z p q a b)).1.npre = (3, []) :: (parseC (hfT pre suf z p q a b)).1.pre := by
  obtain ⟨P, N, S, c, ho, hv, hN, hN1⟩ := hfT_out pre suf hz hp hq ha hb
  obtain ⟨⟨n, hn, hlo⟩, _⟩ := nmT_ok hz hp hq ha hb
  obtain ⟨h1, h2⟩ := hfT_vl pre suf hz hp hq ha hb
  have hl := out_len _ _ _ _ _ _ ho
  obtain ⟨h3, h4, h5⟩ := lenPNS (Nat.le_trans hl h2)
  have ht : tkn (hfT pre suf z p q a b) = some (P ++ N ++ S) := by
    unfold tkn
    rw [tok_out, ho]; simp
  rw [← hN] at hn
  unfold parseC
  rw [ht]
  simp only [parse_one hv hN1 hn hlo, mkP]
  refine ⟨⟨?_, ?_, ?_, ?_⟩, trivial⟩
  · show (joinT [] P).length ≤ _; omega
  · show (joinT [] S).length ≤ _; omega
  · show ((3, []) :: joinT [] P).length ≤ _; rw [List.length_cons]; omega
  · show (joinT [] S).length ≤ _; omega
/-- Two halves, parsed. -/
theorem ph2 (pre suf : List Int) {z p q a b : Nat} (hz : z < 7) (hp : p < 5) (hq : q < 5) (ha : a < 4) (hb : b < 4) {T : List Int} (hTv : Vl T) (hTl : T.length ≤ 200) {P' N' S' : List (Int × Int)} {d : Bool} (ho' : outS false false T = some (P' ++ N' ++ S', d, d)) (hv' : Hv P' N' S') (hN' : 1 ≤ N'.length) (hp' : okPr (N'.map (·.2)) = true) :
    (∀ w, Calls Tryz.prog 4 #[.string (sB (hfT pre suf z p q a b ++ 59 :: T))] w fun e w' => ∃ v, e = .returned (.tuple #[v, .int .i64 0]) ∧ PV w' w.heap.size v (parseC (hfT pre suf z p q a b ++ 59 :: T)).1 ∧ Q w w') ∧ PS (parseC (hfT pre suf z p q a b ++ 59 :: T)).1 := by
  obtain ⟨P, N, S, c, ho, hv, hN, hN1⟩ := hfT_out pre suf hz hp hq ha hb
  obtain ⟨⟨n, hn, hlo⟩, _⟩ := nmT_ok hz hp hq ha hb
  obtain ⟨n', b', hn', _, hlo', _⟩ := okPr_of hp'
  obtain ⟨h1, h2⟩ := hfT_vl pre suf hz hp hq ha hb
  have hl := out_len _ _ _ _ _ _ ho
  have hl' := out_len _ _ _ _ _ _ ho'
  obtain ⟨h3, h4, h5⟩ := lenPNS (Nat.le_trans hl h2)
  obtain ⟨h3', h4', h5'⟩ := lenPNS (Nat.le_trans hl' hTl)
  have hvc : Vl (hfT pre suf z p q a b ++ 59 :: T) := vl_app h1 fun c hc => by
    rcases List.mem_cons.1 hc with rfl | hc
    · decide +kernel
    · exact hTv c hc
  have hoc : outS false false (hfT pre suf z p q a b ++ 59 :: T) = some (P ++ N ++ S ++ (5, 59) :: (P' ++ N' ++ S'), d, d) := by
    rw [out_append, ho]
    have : outS c c (59 :: T) = some ((5, 59) :: (P' ++ N' ++ S'), d, d) := by
      rw [outS_cons, if_neg (by decide), if_neg (by simp), if_neg (by decide), ho']; rfl
    simp [this]
  refine ⟨fun w => ?_, ?_⟩
  · rw [sB_joinL hvc]
    exact parse2 hvc (by rw [List.length_append, List.length_cons]; omega) hoc hv hN1 (by omega) (by rw [hN]; exact nmT_okPr hz hp hq ha hb) hv' hN' (by omega) hp' w
  · have ht : tkn (hfT pre suf z p q a b ++ 59 :: T) = some (P ++ N ++ S ++ (5, 59) :: (P' ++ N' ++ S')) := by
      unfold tkn
      rw [tok_out, hoc]; simp
    rw [← hN] at hn
    unfold parseC
    rw [ht]
    simp only [parse_two hv hN1 hn hlo hv' hN' hn' hlo', mkP]
    refine ⟨?_, ?_, ?_, ?_⟩
    · show (joinT [] P).length ≤ _; omega
    · show (joinT [] S).length ≤ _; omega
    · show (joinT [] P').length ≤ _; omega
    · show (joinT [] S').length ≤ _; omega
/-- A text made of any, parsed. -/
theorem text_parse (pre suf np ns : List Int) (two : Bool) {z p q a b : Nat} (hz : z < 7) (hp : p < 5) (hq : q < 5) (ha : a < 4) (hb : b < 4) :
    (∀ w, Calls Tryz.prog 4 #[.string (sB (hfT pre suf z p q a b ++ twoT two np ns))] w fun e w' => ∃ v, e = .returned (.tuple #[v, .int .i64 0]) ∧ PV w' w.heap.size v (parseC (hfT pre suf z p q a b ++ twoT two np ns)).1 ∧ Q w w') ∧ PS (parseC (hfT pre suf z p q a b ++ twoT two np ns)).1 := by
  cases two with
  | false =>
    have e : hfT pre suf z p q a b ++ twoT false np ns = hfT pre suf z p q a b := by simp [twoT]
    rw [e]
    exact ⟨fun w => ph1 pre suf hz hp hq ha hb w, (ps1 pre suf hz hp hq ha hb).1⟩
  | true =>
    have e : hfT pre suf z p q a b ++ twoT true np ns = hfT pre suf z p q a b ++ 59 :: (sgL np ++ [48] ++ sgL ns) := by simp [twoT]
    rw [e]
    obtain ⟨P', c1, h4, h5⟩ := sgL_out np false
    obtain ⟨S', c2, h6, h7⟩ := sgL_out ns false
    refine ph2 pre suf hz hp hq ha hb (vl_app (vl_app (sgL_vl _) (by decide +kernel)) (sgL_vl _)) ?_ (P' := P') (N' := [(4, 48)]) (S' := S') (d := c2) ?_ ⟨h5, h7, fun x hx => by rw [List.mem_singleton.1 hx]⟩ (by decide) (by decide +kernel)
    · have h1 := sgL_len np
      have h3 := sgL_len ns
      simp only [List.length_append, List.length_cons, List.length_nil]
      omega
    · rw [out_append, out_append, h4]
      have := signs_out c1 [48] (by decide +kernel) (by decide)
      simp [this, h6]
end Pg
end Go.Proofs.YtjloibgjnnknnaaGreatDoor
/-! PgSm -/
set_option linter.unusedVariables false
set_option linter.unusedSimpArgs false
namespace Go.Proofs.YtjloibgjnnknnaaGreatDoor
open Go.RowKit
namespace Pg
open Pt Um Tx

theorem Lst_len2 {w : World} {v : Value} {xs : List Int} (h : Lst w v xs) : xs.length ≤ maxLen := by
  rcases h with ⟨h, _⟩ | ⟨g, off, cap, _, _, h1, h2, _⟩
  · rw [h]; exact Nat.zero_le _
  · omega
/-- What a pattern's text is made of, whose text and pattern are told. -/
def Good (u : World) (cs : List Value) : Prop := ∃ T : List Int, Vl T ∧ T.length ≤ 200 ∧ PS (parseC T).1 ∧
  (∀ u', Q u u' → Calls Tryz.prog 5 #[.agg cs.toArray] u' fun e w' => e = .returned (.string (sB T)) ∧ Q u' w') ∧
  (∀ u', Calls Tryz.prog 4 #[.string (sB T)] u' fun e w' => ∃ v, e = .returned (.tuple #[v, .int .i64 0]) ∧ PV w' u'.heap.size v (parseC T).1 ∧ Q u' w') ∧
  (∀ u', Calls Tryz.prog 6 #[.string (sB T)] u' fun e w' => ∃ v c, e = .returned (.tuple #[v, .int .i64 c]) ∧ Pr.PV w' v (parseC T).1 ∧ Q u' w')
theorem ref_parse {T : List Int} (hv : Vl T) (hl : T.length ≤ 200) (u : World) : Calls Tryz.prog 6 #[.string (sB T)] u fun e w' => ∃ v c, e = .returned (.tuple #[v, .int .i64 c]) ∧ Pr.PV w' v (parseC T).1 ∧ Q u w' := by
  have hs := sB_size T
  have e : allL (sB T).data.toList = T := by
    rw [sB_joinL hv]; exact allL_join T hv
  have h := Pr.Parse_all (sB T) u (by omega)
  rw [e] at h
  refine h.mono ?_
  rintro e w' ⟨v, rfl, hp, hq⟩
  exact ⟨v, _, rfl, hp, hq⟩
theorem good_of (f0 f1 f3 f4 : Value) (x0 x1 x3 x4 : List Int) (two : Bool) (i5 i6 i7 i8 i9 : Int) (w : World)
    (w0 : Lst w f0 x0) (w1 : Lst w f1 x1) (w3 : Lst w f3 x3) (w4 : Lst w f4 x4)
    (b0 : ∀ n ∈ x0, -9223372036854775808 ≤ n ∧ n ≤ 9223372036854775807) (b1 : ∀ n ∈ x1, -9223372036854775808 ≤ n ∧ n ≤ 9223372036854775807) (b3 : ∀ n ∈ x3, -9223372036854775808 ≤ n ∧ n ≤ 9223372036854775807) (b4 : ∀ n ∈ x4, -9223372036854775808 ≤ n ∧ n ≤ 9223372036854775807)
    (h5 : -9223372036854775808 ≤ i5 ∧ i5 ≤ 9223372036854775807) (h6 : -9223372036854775808 ≤ i6 ∧ i6 ≤ 9223372036854775807) (h7 : -9223372036854775808 ≤ i7 ∧ i7 ≤ 9223372036854775807) (h8 : -9223372036854775808 ≤ i8 ∧ i8 ≤ 9223372036854775807) (h9 : -9223372036854775808 ≤ i9 ∧ i9 ≤ 9223372036854775807) : Good w [f0, f1, .bool two, f3, f4, .int .i64 i5, .int .i64 i6, .int .i64 i7, .int .i64 i8, .int .i64 i9] := by
  obtain ⟨z, ez⟩ : ∃ n : Nat, around i5 7 = n := ⟨(around i5 7).toNat, by have := around_bd i5 7 (by decide); omega⟩
  have hzl : z < 7 := by have := around_bd i5 7 (by decide); omega
  obtain ⟨p, ep⟩ : ∃ n : Nat, around i6 5 = n := ⟨(around i6 5).toNat, by have := around_bd i6 5 (by decide); omega⟩
  have hpl : p < 5 := by have := around_bd i6 5 (by decide); omega
  obtain ⟨q, eq⟩ : ∃ n : Nat, around i7 5 = n := ⟨(around i7 5).toNat, by have := around_bd i7 5 (by decide); omega⟩
  have hql : q < 5 := by have := around_bd i7 5 (by decide); omega
  obtain ⟨a, ea⟩ : ∃ n : Nat, around i8 4 = n := ⟨(around i8 4).toNat, by have := around_bd i8 4 (by decide); omega⟩
  have hal : a < 4 := by have := around_bd i8 4 (by decide); omega
  obtain ⟨b, eb⟩ : ∃ n : Nat, around i9 4 = n := ⟨(around i9 4).toNat, by have := around_bd i9 4 (by decide); omega⟩
  have hbl : b < 4 := by have := around_bd i9 4 (by decide); omega
  obtain ⟨h1, h2⟩ := text_parse x0 x1 x3 x4 two hzl hpl hql hal hbl
  obtain ⟨h3, h4⟩ := hfT_vl x0 x1 hzl hpl hql hal hbl
  have k3 := sgL_len x3
  have k4 := sgL_len x4
  have hV : Vl (hfT x0 x1 z p q a b ++ twoT two x3 x4) := by
    refine vl_app h3 ?_
    unfold twoT
    split
    · intro c hc
      rcases List.mem_cons.1 hc with rfl | hc
      · decide +kernel
      · exact vl_app (vl_app (sgL_vl _) (by decide +kernel)) (sgL_vl _) c hc
    · intro c hc; cases hc
  have hL : (hfT x0 x1 z p q a b ++ twoT two x3 x4).length ≤ 200 := by
    rw [List.length_append]
    unfold twoT
    split
    · simp only [List.length_append, List.length_cons, List.length_nil]; omega
    · simp only [List.length_nil]; omega
  refine ⟨hfT x0 x1 z p q a b ++ twoT two x3 x4, hV, hL, h2, fun u' hq => ?_, h1, ref_parse hV hL⟩
  · exact Tx.text_any _ _ _ _ x0 x1 x3 x4 two i5 i6 i7 i8 i9 z p q a b u' (w0.q hq) (w1.q hq) (w3.q hq) (w4.q hq) (Lst_len2 w0) (Lst_len2 w1) (Lst_len2 w3) (Lst_len2 w4) b0 b1 b3 b4 h5 h6 h7 h8 h9 ez ep eq ea eb

theorem big {X : Pat} (h : PS X) : Pr.PS X := by obtain ⟨a, b, c, d⟩ := h; exact ⟨by omega, by omega, by omega, by omega⟩
set_option maxHeartbeats 4000000 in
set_option maxRecDepth 100000 in
theorem law_same (fa0 fa1 fa3 fa4 : Value) (xa0 xa1 xa3 xa4 : List Int) (twoa : Bool) (ia5 ia6 ia7 ia8 ia9 : Int)
    (fb0 fb1 fb3 fb4 : Value) (xb0 xb1 xb3 xb4 : List Int) (twob : Bool) (ib5 ib6 ib7 ib8 ib9 : Int) (w : World)
    (wa0 : Lst w fa0 xa0) (wa1 : Lst w fa1 xa1) (wa3 : Lst w fa3 xa3) (wa4 : Lst w fa4 xa4)
    (ba0 : ∀ n ∈ xa0, -9223372036854775808 ≤ n ∧ n ≤ 9223372036854775807) (ba1 : ∀ n ∈ xa1, -9223372036854775808 ≤ n ∧ n ≤ 9223372036854775807) (ba3 : ∀ n ∈ xa3, -9223372036854775808 ≤ n ∧ n ≤ 9223372036854775807) (ba4 : ∀ n ∈ xa4, -9223372036854775808 ≤ n ∧ n ≤ 9223372036854775807)
    (ha5 : -9223372036854775808 ≤ ia5 ∧ ia5 ≤ 9223372036854775807) (ha6 : -9223372036854775808 ≤ ia6 ∧ ia6 ≤ 9223372036854775807) (ha7 : -9223372036854775808 ≤ ia7 ∧ ia7 ≤ 9223372036854775807) (ha8 : -9223372036854775808 ≤ ia8 ∧ ia8 ≤ 9223372036854775807) (ha9 : -9223372036854775808 ≤ ia9 ∧ ia9 ≤ 9223372036854775807)
    (wb0 : Lst w fb0 xb0) (wb1 : Lst w fb1 xb1) (wb3 : Lst w fb3 xb3) (wb4 : Lst w fb4 xb4)
    (bb0 : ∀ n ∈ xb0, -9223372036854775808 ≤ n ∧ n ≤ 9223372036854775807) (bb1 : ∀ n ∈ xb1, -9223372036854775808 ≤ n ∧ n ≤ 9223372036854775807) (bb3 : ∀ n ∈ xb3, -9223372036854775808 ≤ n ∧ n ≤ 9223372036854775807) (bb4 : ∀ n ∈ xb4, -9223372036854775808 ≤ n ∧ n ≤ 9223372036854775807)
    (hb5 : -9223372036854775808 ≤ ib5 ∧ ib5 ≤ 9223372036854775807) (hb6 : -9223372036854775808 ≤ ib6 ∧ ib6 ≤ 9223372036854775807) (hb7 : -9223372036854775808 ≤ ib7 ∧ ib7 ≤ 9223372036854775807) (hb8 : -9223372036854775808 ≤ ib8 ∧ ib8 ≤ 9223372036854775807) (hb9 : -9223372036854775808 ≤ ib9 ∧ ib9 ≤ 9223372036854775807) :
    Calls Tryz.prog 3 #[.agg #[fa0, fa1, .bool twoa, fa3, fa4, .int .i64 ia5, .int .i64 ia6, .int .i64 ia7, .int .i64 ia8, .int .i64 ia9], .agg #[fb0, fb1, .bool twob, fb3, fb4, .int .i64 ib5, .int .i64 ib6, .int .i64 ib7, .int .i64 ib8, .int .i64 ib9]] w fun e w' => e = .returned (.bool true) ∧ Q w w' := by
  obtain ⟨na0, hna0⟩ : ∃ n, xa0.length = n := ⟨_, rfl⟩
  obtain ⟨ea0, sa0, rfl, _, _⟩ := wa0.form0 hna0
  obtain ⟨na1, hna1⟩ : ∃ n, xa1.length = n := ⟨_, rfl⟩
  obtain ⟨ea1, sa1, rfl, _, _⟩ := wa1.form0 hna1
  obtain ⟨na3, hna3⟩ : ∃ n, xa3.length = n := ⟨_, rfl⟩
  obtain ⟨ea3, sa3, rfl, _, _⟩ := wa3.form0 hna3
  obtain ⟨na4, hna4⟩ : ∃ n, xa4.length = n := ⟨_, rfl⟩
  obtain ⟨ea4, sa4, rfl, _, _⟩ := wa4.form0 hna4
  obtain ⟨nb0, hnb0⟩ : ∃ n, xb0.length = n := ⟨_, rfl⟩
  obtain ⟨eb0, sb0, rfl, _, _⟩ := wb0.form0 hnb0
  obtain ⟨nb1, hnb1⟩ : ∃ n, xb1.length = n := ⟨_, rfl⟩
  obtain ⟨eb1, sb1, rfl, _, _⟩ := wb1.form0 hnb1
  obtain ⟨nb3, hnb3⟩ : ∃ n, xb3.length = n := ⟨_, rfl⟩
  obtain ⟨eb3, sb3, rfl, _, _⟩ := wb3.form0 hnb3
  obtain ⟨nb4, hnb4⟩ : ∃ n, xb4.length = n := ⟨_, rfl⟩
  obtain ⟨eb4, sb4, rfl, _, _⟩ := wb4.form0 hnb4
  have GA := Lib.hid (show Good w [.slice ea0 na0 sa0, .slice ea1 na1 sa1, .bool twoa, .slice ea3 na3 sa3, .slice ea4 na4 sa4, .int .i64 ia5, .int .i64 ia6, .int .i64 ia7, .int .i64 ia8, .int .i64 ia9] from good_of _ _ _ _ xa0 xa1 xa3 xa4 twoa ia5 ia6 ia7 ia8 ia9 w wa0 wa1 wa3 wa4 ba0 ba1 ba3 ba4 ha5 ha6 ha7 ha8 ha9)
  have GB := Lib.hid (show Good w [.slice eb0 nb0 sb0, .slice eb1 nb1 sb1, .bool twob, .slice eb3 nb3 sb3, .slice eb4 nb4 sb4, .int .i64 ib5, .int .i64 ib6, .int .i64 ib7, .int .i64 ib8, .int .i64 ib9] from good_of _ _ _ _ xb0 xb1 xb3 xb4 twob ib5 ib6 ib7 ib8 ib9 w wb0 wb1 wb3 wb4 bb0 bb1 bb3 bb4 hb5 hb6 hb7 hb8 hb9)
  have GC := Lib.hid (show Good w [.slice eb0 nb0 sb0, .slice eb1 nb1 sb1, .bool twob, .slice eb3 nb3 sb3, .slice eb4 nb4 sb4, .int .i64 ia5, .int .i64 ia6, .int .i64 ia7, .int .i64 ia8, .int .i64 ia9] from good_of _ _ _ _ xb0 xb1 xb3 xb4 twob ia5 ia6 ia7 ia8 ia9 w wb0 wb1 wb3 wb4 bb0 bb1 bb3 bb4 ha5 ha6 ha7 ha8 ha9)
  clear wa0 ba0 hna0 wa1 ba1 hna1 wa3 ba3 hna3 wa4 ba4 hna4 wb0 bb0 hnb0 wb1 bb1 hnb1 wb3 bb3 hnb3 wb4 bb4 hnb4 ha5 ha6 ha7 ha8 ha9 hb5 hb6 hb7 hb8 hb9
  obtain ⟨z3, hz3⟩ : ∃ z, z = ((w.alloc (.cells #[.slice ea0 na0 sa0, .slice ea1 na1 sa1, .bool twoa, .slice ea3 na3 sa3, .slice ea4 na4 sa4, .int .i64 ia5, .int .i64 ia6, .int .i64 ia7, .int .i64 ia8, .int .i64 ia9] 24)).alloc (.cells #[.slice eb0 nb0 sb0, .slice eb1 nb1 sb1, .bool twob, .slice eb3 nb3 sb3, .slice eb4 nb4 sb4, .int .i64 ib5, .int .i64 ib6, .int .i64 ib7, .int .i64 ib8, .int .i64 ib9] 24)).alloc (.cells #[.slice eb0 nb0 sb0, .slice eb1 nb1 sb1, .bool twob, .slice eb3 nb3 sb3, .slice eb4 nb4 sb4, .int .i64 ia5, .int .i64 ia6, .int .i64 ia7, .int .i64 ia8, .int .i64 ia9] 24) := ⟨_, rfl⟩
  have hs3 : z3.heap.size = w.heap.size + 1 + 1 + 1 := by rw [hz3]; simp
  have hq3 : Q w z3 := by rw [hz3]; exact (((Q.refl w).alloc _).alloc _).alloc _
  obtain ⟨z, hz⟩ : ∃ z, z = z3.alloc (.cells #[.slice ea0 na0 sa0, .slice ea1 na1 sa1, .bool twoa, .slice ea3 na3 sa3, .slice ea4 na4 sa4, .int .i64 ia5, .int .i64 ia6, .int .i64 ia7, .int .i64 ia8, .int .i64 ia9, .slice eb0 nb0 sb0, .slice eb1 nb1 sb1, .bool twob, .slice eb3 nb3 sb3, .slice eb4 nb4 sb4, .int .i64 ib5, .int .i64 ib6, .int .i64 ib7, .int .i64 ib8, .int .i64 ib9, .slice eb0 nb0 sb0, .slice eb1 nb1 sb1, .bool twob, .slice eb3 nb3 sb3, .slice eb4 nb4 sb4, .int .i64 ia5, .int .i64 ia6, .int .i64 ia7, .int .i64 ia8, .int .i64 ia9] 24) := ⟨_, rfl⟩
  have hqz : Q w z := by rw [hz]; exact hq3.alloc _
  have hbz : Bk z (w.heap.size + 1 + 1 + 1) 24 [.slice ea0 na0 sa0, .slice ea1 na1 sa1, .bool twoa, .slice ea3 na3 sa3, .slice ea4 na4 sa4, .int .i64 ia5, .int .i64 ia6, .int .i64 ia7, .int .i64 ia8, .int .i64 ia9, .slice eb0 nb0 sb0, .slice eb1 nb1 sb1, .bool twob, .slice eb3 nb3 sb3, .slice eb4 nb4 sb4, .int .i64 ib5, .int .i64 ib6, .int .i64 ib7, .int .i64 ib8, .int .i64 ib9, .slice eb0 nb0 sb0, .slice eb1 nb1 sb1, .bool twob, .slice eb3 nb3 sb3, .slice eb4 nb4 sb4, .int .i64 ia5, .int .i64 ia6, .int .i64 ia7, .int .i64 ia8, .int .i64 ia9] := by rw [hz, ← hs3]; exact Bk.new _ _ _
  rw [hz3] at hz
  have HQZ := Lib.hid hqz
  clear hqz hs3 hq3 hz3 z3
  go_enter Tryz.func3, Tryz.ntmps3
  go_upto_region 8 with fail
  rw [← hz]
  clear hz
  generalize w.heap.size + 1 + 1 + 1 = BK at *
  have HB := Lib.hid hbz
  have HEL := Lib.hid (fun (i : Nat) (hi : i < 3) => (by
    match i, hi with
    | 0, _ => exact ⟨_, _, _, _, _, _, _, _, _, _, GA.out, fun u h => ⟨(HB.out.q h).cell 0 rfl, (HB.out.q h).cell 1 rfl, (HB.out.q h).cell 2 rfl, (HB.out.q h).cell 3 rfl, (HB.out.q h).cell 4 rfl, (HB.out.q h).cell 5 rfl, (HB.out.q h).cell 6 rfl, (HB.out.q h).cell 7 rfl, (HB.out.q h).cell 8 rfl, (HB.out.q h).cell 9 rfl⟩⟩
    | 1, _ => exact ⟨_, _, _, _, _, _, _, _, _, _, GB.out, fun u h => ⟨(HB.out.q h).cell 10 rfl, (HB.out.q h).cell 11 rfl, (HB.out.q h).cell 12 rfl, (HB.out.q h).cell 13 rfl, (HB.out.q h).cell 14 rfl, (HB.out.q h).cell 15 rfl, (HB.out.q h).cell 16 rfl, (HB.out.q h).cell 17 rfl, (HB.out.q h).cell 18 rfl, (HB.out.q h).cell 19 rfl⟩⟩
    | 2, _ => exact ⟨_, _, _, _, _, _, _, _, _, _, GC.out, fun u h => ⟨(HB.out.q h).cell 20 rfl, (HB.out.q h).cell 21 rfl, (HB.out.q h).cell 22 rfl, (HB.out.q h).cell 23 rfl, (HB.out.q h).cell 24 rfl, (HB.out.q h).cell 25 rfl, (HB.out.q h).cell 26 rfl, (HB.out.q h).cell 27 rfl, (HB.out.q h).cell 28 rfl, (HB.out.q h).cell 29 rfl⟩⟩ :
    ∃ v0 v1 v2 v3 v4 v5 v6 v7 v8 v9, Good w [v0, v1, v2, v3, v4, v5, v6, v7, v8, v9] ∧ ∀ u, Q z u → u.cell? ⟨BK, i * 10, none⟩ = some v0 ∧ u.cell? ⟨BK, i * 10 + 1, none⟩ = some v1 ∧ u.cell? ⟨BK, i * 10 + 2, none⟩ = some v2 ∧ u.cell? ⟨BK, i * 10 + 3, none⟩ = some v3 ∧ u.cell? ⟨BK, i * 10 + 4, none⟩ = some v4 ∧ u.cell? ⟨BK, i * 10 + 5, none⟩ = some v5 ∧ u.cell? ⟨BK, i * 10 + 6, none⟩ = some v6 ∧ u.cell? ⟨BK, i * 10 + 7, none⟩ = some v7 ∧ u.cell? ⟨BK, i * 10 + 8, none⟩ = some v8 ∧ u.cell? ⟨BK, i * 10 + 9, none⟩ = some v9))
  clear hbz
  go_wp2_with fail
  go_loopw [7] (fun i wr => ∃ k : Nat, i = .int .i64 k ∧ k ≤ 3 ∧ Q z wr) (fun i _ => 3 - (intOf i).toNat)
  case atStart => exact ⟨0, rfl, by omega, Q.refl _⟩
  case round =>
    obtain ⟨k, rfl, hk, hq⟩ := hrel
    by_cases hlt : k < 3
    · have hlti : (k : Int) < 3 := by omega
      obtain ⟨v0, v1, v2, v3, v4, v5, v6, v7, v8, v9, ⟨T1, _, _, hps1, ht1, hp1, hr1⟩, hc1⟩ := HEL.out k hlt
      have HT1 := Lib.hid ht1
      have HP1 := Lib.hid hp1
      have HR1 := Lib.hid hr1
      have HC1 := Lib.hid hc1
      generalize (parseC T1).1 = X1 at *
      generalize sB T1 = S1 at *
      clear ht1 hp1 hr1 hc1
      go_wp2_with fail
      go_loopw [8] (fun i wq => ∃ m : Nat, i = .int .i64 m ∧ m ≤ 3 ∧ Q z wq) (fun i _ => 3 - (intOf i).toNat)
      case atStart => exact ⟨0, rfl, by omega, hq⟩
      case round =>
        obtain ⟨m, rfl, hm, hqm⟩ := hrel
        by_cases hmt : m < 3
        · have hmti : (m : Int) < 3 := by omega
          obtain ⟨u0, u1, u2, u3, u4, u5, u6, u7, u8, u9, ⟨T2, _, _, hps2, ht2, hp2, hr2⟩, hc2⟩ := HEL.out m hmt
          have HT2 := Lib.hid ht2
          have HP2 := Lib.hid hp2
          have HR2 := Lib.hid hr2
          have HC2 := Lib.hid hc2
          generalize (parseC T2).1 = X2 at *
          generalize sB T2 = S2 at *
          have HSM0 := Lib.hid (fun (u : World) (B C : Nat) (v x : Value) (h : PV u B v X1) (h' : PV u C x X2) => same_any v x _ _ u B C h h' hps1 hps2)
          have HSR0 := Lib.hid (fun (u : World) (v x : Value) (h : Pr.PV u v X1) (h' : Pr.PV u x X2) => Pr.same_any v x _ _ u h h' (big hps1) (big hps2))
          obtain ⟨D, hD⟩ : ∃ D, D = decide (X1 = X2) := ⟨_, rfl⟩
          rw [← hD] at HSM0 HSR0
          have hDD : (D != D) = false := by cases D <;> rfl
          clear ht2 hp2 hr2 hc2 hD hps2
          have HQ0 := Lib.hid hqm
          clear hqm
          obtain ⟨c0, c1, c2, c3, c4, c5, c6, c7, c8, c9⟩ := HC1.out _ HQ0.out
          go_wp2_with fail
          clear c0 c1 c2 c3 c4 c5 c6 c7 c8 c9
          refine (HT1.out _ (HQZ.out.trans HQ0.out)).mono ?_
          rintro e y1 ⟨rfl, hqa⟩
          have HQA := Lib.hid (HQ0.out.trans hqa)
          have HA0 := Lib.hid hqa
          clear hqa
          go_wp2_with fail
          refine (HP1.out _).mono ?_
          rintro e x1 ⟨pv1, rfl, hpv, hqb⟩
          have HPV0 := Lib.hid hpv
          obtain ⟨va, vb, vc, vd, rfl, ha, hb, hc, hd⟩ := hpv
          obtain ⟨lap, hlap⟩ : ∃ n, X1.pre.length = n := ⟨_, rfl⟩
          obtain ⟨ap1, ap2, rfl, _, _⟩ := ha.1.form0 hlap
          obtain ⟨lbp, hlbp⟩ : ∃ n, X1.suf.length = n := ⟨_, rfl⟩
          obtain ⟨bp1, bp2, rfl, _, _⟩ := hb.1.form0 hlbp
          obtain ⟨lcp, hlcp⟩ : ∃ n, X1.npre.length = n := ⟨_, rfl⟩
          obtain ⟨cp1, cp2, rfl, _, _⟩ := hc.1.form0 hlcp
          obtain ⟨ldp, hldp⟩ : ∃ n, X1.nsuf.length = n := ⟨_, rfl⟩
          obtain ⟨dp1, dp2, rfl, _, _⟩ := hd.1.form0 hldp

          obtain ⟨t1, ht1⟩ : ∃ t, t = x1.alloc (.cells #[.slice ap1 lap ap2, .slice bp1 lbp bp2, .slice cp1 lcp cp2, .slice dp1 ldp dp2, .int .i64 X1.pr, .int .i64 X1.se, .int .i64 X1.mi, .int .i64 X1.mf, .int .i64 X1.xf] 28) := ⟨_, rfl⟩
          have hqt : Q x1 t1 := by rw [ht1]; exact (Q.refl _).alloc _
          have HB1 := Lib.hid (show Bk t1 x1.heap.size 28 [.slice ap1 lap ap2, .slice bp1 lbp bp2, .slice cp1 lcp cp2, .slice dp1 ldp dp2, .int .i64 X1.pr, .int .i64 X1.se, .int .i64 X1.mi, .int .i64 X1.mf, .int .i64 X1.xf] by rw [ht1]; exact Bk.new _ _ _)
          have HPV1 := Lib.hid (HPV0.out.q hqt)
          have HQ1 := Lib.hid (HQA.out.trans (hqb.trans hqt))
          have HS1 := Lib.hid (Q.le (hqb.trans hqt))
          have HQBT := Lib.hid (HA0.out.trans (hqb.trans hqt))
          have hqn := HQBT.out
          clear hqn
          clear ha hb hc hd hqb hqt HPV0 HQA HA0 HQBT HS1
          go_upto_region 15 with fail
          rw [← ht1]
          clear ht1
          obtain ⟨c0, c1, c2, c3, c4, c5, c6, c7, c8, c9⟩ := HC2.out _ HQ1.out
          go_wp2_with fail
          clear c0 c1 c2 c3 c4 c5 c6 c7 c8 c9
          refine (HT2.out _ (HQZ.out.trans HQ1.out)).mono ?_
          rintro e y2 ⟨rfl, hqa⟩
          have HQA := Lib.hid (HQ1.out.trans hqa)
          have HA0 := Lib.hid hqa
          clear hqa
          go_wp2_with fail
          refine (HP2.out _).mono ?_
          rintro e x2 ⟨pv2, rfl, hpv, hqb⟩
          have HPV0 := Lib.hid hpv
          obtain ⟨va, vb, vc, vd, rfl, ha, hb, hc, hd⟩ := hpv
          obtain ⟨lar, hlar⟩ : ∃ n, X2.pre.length = n := ⟨_, rfl⟩
          obtain ⟨ar1, ar2, rfl, _, _⟩ := ha.1.form0 hlar
          obtain ⟨lbr, hlbr⟩ : ∃ n, X2.suf.length = n := ⟨_, rfl⟩
          obtain ⟨br1, br2, rfl, _, _⟩ := hb.1.form0 hlbr
          obtain ⟨lcr, hlcr⟩ : ∃ n, X2.npre.length = n := ⟨_, rfl⟩
          obtain ⟨cr1, cr2, rfl, _, _⟩ := hc.1.form0 hlcr
          obtain ⟨ldr, hldr⟩ : ∃ n, X2.nsuf.length = n := ⟨_, rfl⟩
          obtain ⟨dr1, dr2, rfl, _, _⟩ := hd.1.form0 hldr

          obtain ⟨t2, ht2⟩ : ∃ t, t = x2.alloc (.cells #[.slice ar1 lar ar2, .slice br1 lbr br2, .slice cr1 lcr cr2, .slice dr1 ldr dr2, .int .i64 X2.pr, .int .i64 X2.se, .int .i64 X2.mi, .int .i64 X2.mf, .int .i64 X2.xf] 28) := ⟨_, rfl⟩
          have hqt : Q x2 t2 := by rw [ht2]; exact (Q.refl _).alloc _
          have HB2 := Lib.hid (show Bk t2 x2.heap.size 28 [.slice ar1 lar ar2, .slice br1 lbr br2, .slice cr1 lcr cr2, .slice dr1 ldr dr2, .int .i64 X2.pr, .int .i64 X2.se, .int .i64 X2.mi, .int .i64 X2.mf, .int .i64 X2.xf] by rw [ht2]; exact Bk.new _ _ _)
          have HPV2 := Lib.hid (HPV0.out.q hqt)
          have HQ2 := Lib.hid (HQA.out.trans (hqb.trans hqt))
          have HS2 := Lib.hid (Q.le (hqb.trans hqt))
          have HQBT := Lib.hid (HA0.out.trans (hqb.trans hqt))
          have hqn := HQBT.out
          replace HB1 := Lib.hid (HB1.out.q hqn)
          replace HPV1 := Lib.hid (HPV1.out.q hqn)
          clear hqn
          clear ha hb hc hd hqb hqt HPV0 HQA HA0 HQBT HS2
          go_upto_region 16 with fail
          rw [← ht2]
          clear ht2
          obtain ⟨c0, c1, c2, c3, c4, c5, c6, c7, c8, c9⟩ := HC1.out _ HQ2.out
          go_wp2_with fail
          clear c0 c1 c2 c3 c4 c5 c6 c7 c8 c9
          refine (HT1.out _ (HQZ.out.trans HQ2.out)).mono ?_
          rintro e y3 ⟨rfl, hqa⟩
          have HQA := Lib.hid (HQ2.out.trans hqa)
          have HA0 := Lib.hid hqa
          clear hqa
          go_wp2_with fail
          refine (HR1.out _).mono ?_
          rintro e x3 ⟨pv3, cd3, rfl, hpv, hqb⟩
          have HPV0 := Lib.hid hpv
          obtain ⟨va, vb, vc, vd, rfl, ha, hb, hc, hd⟩ := hpv
          obtain ⟨las, hlas⟩ : ∃ n, X1.pre.length = n := ⟨_, rfl⟩
          obtain ⟨as1, as2, rfl, _, _⟩ := ha.form0 hlas
          obtain ⟨lbs, hlbs⟩ : ∃ n, X1.suf.length = n := ⟨_, rfl⟩
          obtain ⟨bs1, bs2, rfl, _, _⟩ := hb.form0 hlbs
          obtain ⟨lcs, hlcs⟩ : ∃ n, X1.npre.length = n := ⟨_, rfl⟩
          obtain ⟨cs1, cs2, rfl, _, _⟩ := hc.form0 hlcs
          obtain ⟨lds, hlds⟩ : ∃ n, X1.nsuf.length = n := ⟨_, rfl⟩
          obtain ⟨ds1, ds2, rfl, _, _⟩ := hd.form0 hlds
          simp only [Pr.pv]
          obtain ⟨t3, ht3⟩ : ∃ t, t = x3.alloc (.cells #[.slice as1 las as2, .slice bs1 lbs bs2, .slice cs1 lcs cs2, .slice ds1 lds ds2, .int .i64 X1.pr, .int .i64 X1.se, .int .i64 X1.mi, .int .i64 X1.mf, .int .i64 X1.xf] 35) := ⟨_, rfl⟩
          have hqt : Q x3 t3 := by rw [ht3]; exact (Q.refl _).alloc _
          have HB3 := Lib.hid (show Bk t3 x3.heap.size 35 [.slice as1 las as2, .slice bs1 lbs bs2, .slice cs1 lcs cs2, .slice ds1 lds ds2, .int .i64 X1.pr, .int .i64 X1.se, .int .i64 X1.mi, .int .i64 X1.mf, .int .i64 X1.xf] by rw [ht3]; exact Bk.new _ _ _)
          have HPV3 := Lib.hid (HPV0.out.q hqt)
          have HQ3 := Lib.hid (HQA.out.trans (hqb.trans hqt))
          have HS3 := Lib.hid (Q.le (hqb.trans hqt))
          have HQBT := Lib.hid (HA0.out.trans (hqb.trans hqt))
          have hqn := HQBT.out
          replace HB1 := Lib.hid (HB1.out.q hqn)
          replace HPV1 := Lib.hid (HPV1.out.q hqn)
          replace HB2 := Lib.hid (HB2.out.q hqn)
          replace HPV2 := Lib.hid (HPV2.out.q hqn)
          clear hqn
          clear ha hb hc hd hqb hqt HPV0 HQA HA0 HQBT HS3
          go_upto_region 17 with fail
          rw [← ht3]
          clear ht3
          obtain ⟨c0, c1, c2, c3, c4, c5, c6, c7, c8, c9⟩ := HC2.out _ HQ3.out
          go_wp2_with fail
          clear c0 c1 c2 c3 c4 c5 c6 c7 c8 c9
          refine (HT2.out _ (HQZ.out.trans HQ3.out)).mono ?_
          rintro e y4 ⟨rfl, hqa⟩
          have HQA := Lib.hid (HQ3.out.trans hqa)
          have HA0 := Lib.hid hqa
          clear hqa
          go_wp2_with fail
          refine (HR2.out _).mono ?_
          rintro e x4 ⟨pv4, cd4, rfl, hpv, hqb⟩
          have HPV0 := Lib.hid hpv
          obtain ⟨va, vb, vc, vd, rfl, ha, hb, hc, hd⟩ := hpv
          obtain ⟨lat, hlat⟩ : ∃ n, X2.pre.length = n := ⟨_, rfl⟩
          obtain ⟨at1, at2, rfl, _, _⟩ := ha.form0 hlat
          obtain ⟨lbt, hlbt⟩ : ∃ n, X2.suf.length = n := ⟨_, rfl⟩
          obtain ⟨bt1, bt2, rfl, _, _⟩ := hb.form0 hlbt
          obtain ⟨lct, hlct⟩ : ∃ n, X2.npre.length = n := ⟨_, rfl⟩
          obtain ⟨ct1, ct2, rfl, _, _⟩ := hc.form0 hlct
          obtain ⟨ldt, hldt⟩ : ∃ n, X2.nsuf.length = n := ⟨_, rfl⟩
          obtain ⟨dt1, dt2, rfl, _, _⟩ := hd.form0 hldt
          simp only [Pr.pv]
          obtain ⟨t4, ht4⟩ : ∃ t, t = x4.alloc (.cells #[.slice at1 lat at2, .slice bt1 lbt bt2, .slice ct1 lct ct2, .slice dt1 ldt dt2, .int .i64 X2.pr, .int .i64 X2.se, .int .i64 X2.mi, .int .i64 X2.mf, .int .i64 X2.xf] 35) := ⟨_, rfl⟩
          have hqt : Q x4 t4 := by rw [ht4]; exact (Q.refl _).alloc _
          have HB4 := Lib.hid (show Bk t4 x4.heap.size 35 [.slice at1 lat at2, .slice bt1 lbt bt2, .slice ct1 lct ct2, .slice dt1 ldt dt2, .int .i64 X2.pr, .int .i64 X2.se, .int .i64 X2.mi, .int .i64 X2.mf, .int .i64 X2.xf] by rw [ht4]; exact Bk.new _ _ _)
          have HPV4 := Lib.hid (HPV0.out.q hqt)
          have HQ4 := Lib.hid (HQA.out.trans (hqb.trans hqt))
          have HS4 := Lib.hid (Q.le (hqb.trans hqt))
          have HQBT := Lib.hid (HA0.out.trans (hqb.trans hqt))
          have hqn := HQBT.out
          replace HB1 := Lib.hid (HB1.out.q hqn)
          replace HPV1 := Lib.hid (HPV1.out.q hqn)
          replace HB2 := Lib.hid (HB2.out.q hqn)
          replace HPV2 := Lib.hid (HPV2.out.q hqn)
          replace HB3 := Lib.hid (HB3.out.q hqn)
          replace HPV3 := Lib.hid (HPV3.out.q hqn)
          clear hqn
          clear ha hb hc hd hqb hqt HPV0 HQA HA0 HQBT HS4
          go_upto_region 18 with fail
          rw [← ht4]
          clear ht4
          have HSM := Lib.hid (fun u (h : Q t4 u) => HSM0.out u _ _ _ _ (HPV1.out.q h) (HPV2.out.q h))
          have HSR := Lib.hid (fun u (h : Q t4 u) => HSR0.out u _ _ (HPV3.out.q h) (HPV4.out.q h))
          clear HPV1 HPV2 HPV3 HPV4 HSM0 HSR0 HT1 HT2 HP1 HP2 HR1 HR2 HC1 HC2
          refine wp_region_held_drew (S := fun u => Q t4 u) (by kernel_rfl) (by exact (Q.refl t4).drew) (fun hHeld => ?_)
          have hS : Q t4 t4.drew := hHeld
          clear hHeld
          have hq : Q t4 t4.drew := (Q.refl _).drew
          clear hq
          generalize t4.drew = yR1x0 at *
          refine wpAnyH_take (i := 0) (v := ?vR1x1) rfl (by kernel_rfl) (by kernel_rfl) (by kernel_rfl) (fun _ _ _ h => h) (Or.inl ⟨by rfl, ?hyR1x1⟩) (by exact hS) ?rsR1x1
          case hyR1x1 => (intro uz hSw; (try dsimp only at hSw); have k1 := HB1.out.q hSw; have k2 := HB2.out.q hSw; have k3 := HB3.out.q hSw; have k4 := HB4.out.q hSw; have p1_0 := k1.cell 0 rfl; have p1_1 := k1.cell 1 rfl; have p1_2 := k1.cell 2 rfl; have p1_3 := k1.cell 3 rfl; have p1_4 := k1.cell 4 rfl; have p1_5 := k1.cell 5 rfl; have p1_6 := k1.cell 6 rfl; have p1_7 := k1.cell 7 rfl; have p1_8 := k1.cell 8 rfl; have p2_0 := k2.cell 0 rfl; have p2_1 := k2.cell 1 rfl; have p2_2 := k2.cell 2 rfl; have p2_3 := k2.cell 3 rfl; have p2_4 := k2.cell 4 rfl; have p2_5 := k2.cell 5 rfl; have p2_6 := k2.cell 6 rfl; have p2_7 := k2.cell 7 rfl; have p2_8 := k2.cell 8 rfl; have p3_0 := k3.cell 0 rfl; have p3_1 := k3.cell 1 rfl; have p3_2 := k3.cell 2 rfl; have p3_3 := k3.cell 3 rfl; have p3_4 := k3.cell 4 rfl; have p3_5 := k3.cell 5 rfl; have p3_6 := k3.cell 6 rfl; have p3_7 := k3.cell 7 rfl; have p3_8 := k3.cell 8 rfl; have p4_0 := k4.cell 0 rfl; have p4_1 := k4.cell 1 rfl; have p4_2 := k4.cell 2 rfl; have p4_3 := k4.cell 3 rfl; have p4_4 := k4.cell 4 rfl; have p4_5 := k4.cell 5 rfl; have p4_6 := k4.cell 6 rfl; have p4_7 := k4.cell 7 rfl; have p4_8 := k4.cell 8 rfl; clear k1 k2 k3 k4; go_simp; try with_reducible rfl)
          try simp only [Act.put, List.setIfInBounds_toArray, List.set_cons_zero, List.set_cons_succ]
          refine wpAnyH_take (i := 1) (v := ?vR1x2) rfl (by kernel_rfl) (by kernel_rfl) (by kernel_rfl) (fun _ _ _ h => h) (Or.inl ⟨by rfl, ?hyR1x2⟩) (by exact hS) ?rsR1x2
          case hyR1x2 => (intro uz hSw; (try dsimp only at hSw); have k1 := HB1.out.q hSw; have k2 := HB2.out.q hSw; have k3 := HB3.out.q hSw; have k4 := HB4.out.q hSw; have p1_0 := k1.cell 0 rfl; have p1_1 := k1.cell 1 rfl; have p1_2 := k1.cell 2 rfl; have p1_3 := k1.cell 3 rfl; have p1_4 := k1.cell 4 rfl; have p1_5 := k1.cell 5 rfl; have p1_6 := k1.cell 6 rfl; have p1_7 := k1.cell 7 rfl; have p1_8 := k1.cell 8 rfl; have p2_0 := k2.cell 0 rfl; have p2_1 := k2.cell 1 rfl; have p2_2 := k2.cell 2 rfl; have p2_3 := k2.cell 3 rfl; have p2_4 := k2.cell 4 rfl; have p2_5 := k2.cell 5 rfl; have p2_6 := k2.cell 6 rfl; have p2_7 := k2.cell 7 rfl; have p2_8 := k2.cell 8 rfl; have p3_0 := k3.cell 0 rfl; have p3_1 := k3.cell 1 rfl; have p3_2 := k3.cell 2 rfl; have p3_3 := k3.cell 3 rfl; have p3_4 := k3.cell 4 rfl; have p3_5 := k3.cell 5 rfl; have p3_6 := k3.cell 6 rfl; have p3_7 := k3.cell 7 rfl; have p3_8 := k3.cell 8 rfl; have p4_0 := k4.cell 0 rfl; have p4_1 := k4.cell 1 rfl; have p4_2 := k4.cell 2 rfl; have p4_3 := k4.cell 3 rfl; have p4_4 := k4.cell 4 rfl; have p4_5 := k4.cell 5 rfl; have p4_6 := k4.cell 6 rfl; have p4_7 := k4.cell 7 rfl; have p4_8 := k4.cell 8 rfl; clear k1 k2 k3 k4; go_simp; try with_reducible rfl)
          try simp only [Act.put, List.setIfInBounds_toArray, List.set_cons_zero, List.set_cons_succ]
          refine wpAnyH_take (i := 3) (v := ?vR1x3) rfl (by kernel_rfl) (by kernel_rfl) (by kernel_rfl) (fun _ _ _ h => h) (Or.inl ⟨by rfl, ?hyR1x3⟩) (by exact hS) ?rsR1x3
          case hyR1x3 => (intro uz hSw; (try dsimp only at hSw); have k1 := HB1.out.q hSw; have k2 := HB2.out.q hSw; have k3 := HB3.out.q hSw; have k4 := HB4.out.q hSw; have p1_0 := k1.cell 0 rfl; have p1_1 := k1.cell 1 rfl; have p1_2 := k1.cell 2 rfl; have p1_3 := k1.cell 3 rfl; have p1_4 := k1.cell 4 rfl; have p1_5 := k1.cell 5 rfl; have p1_6 := k1.cell 6 rfl; have p1_7 := k1.cell 7 rfl; have p1_8 := k1.cell 8 rfl; have p2_0 := k2.cell 0 rfl; have p2_1 := k2.cell 1 rfl; have p2_2 := k2.cell 2 rfl; have p2_3 := k2.cell 3 rfl; have p2_4 := k2.cell 4 rfl; have p2_5 := k2.cell 5 rfl; have p2_6 := k2.cell 6 rfl; have p2_7 := k2.cell 7 rfl; have p2_8 := k2.cell 8 rfl; have p3_0 := k3.cell 0 rfl; have p3_1 := k3.cell 1 rfl; have p3_2 := k3.cell 2 rfl; have p3_3 := k3.cell 3 rfl; have p3_4 := k3.cell 4 rfl; have p3_5 := k3.cell 5 rfl; have p3_6 := k3.cell 6 rfl; have p3_7 := k3.cell 7 rfl; have p3_8 := k3.cell 8 rfl; have p4_0 := k4.cell 0 rfl; have p4_1 := k4.cell 1 rfl; have p4_2 := k4.cell 2 rfl; have p4_3 := k4.cell 3 rfl; have p4_4 := k4.cell 4 rfl; have p4_5 := k4.cell 5 rfl; have p4_6 := k4.cell 6 rfl; have p4_7 := k4.cell 7 rfl; have p4_8 := k4.cell 8 rfl; clear k1 k2 k3 k4; go_simp; try with_reducible rfl)
          try simp only [Act.put, List.setIfInBounds_toArray, List.set_cons_zero, List.set_cons_succ]
          refine wpAnyH_take (i := 4) (v := ?vR1x4) rfl (by kernel_rfl) (by kernel_rfl) (by kernel_rfl) (fun _ _ _ h => h) (Or.inl ⟨by rfl, ?hyR1x4⟩) (by exact hS) ?rsR1x4
          case hyR1x4 => (intro uz hSw; (try dsimp only at hSw); have k1 := HB1.out.q hSw; have k2 := HB2.out.q hSw; have k3 := HB3.out.q hSw; have k4 := HB4.out.q hSw; have p1_0 := k1.cell 0 rfl; have p1_1 := k1.cell 1 rfl; have p1_2 := k1.cell 2 rfl; have p1_3 := k1.cell 3 rfl; have p1_4 := k1.cell 4 rfl; have p1_5 := k1.cell 5 rfl; have p1_6 := k1.cell 6 rfl; have p1_7 := k1.cell 7 rfl; have p1_8 := k1.cell 8 rfl; have p2_0 := k2.cell 0 rfl; have p2_1 := k2.cell 1 rfl; have p2_2 := k2.cell 2 rfl; have p2_3 := k2.cell 3 rfl; have p2_4 := k2.cell 4 rfl; have p2_5 := k2.cell 5 rfl; have p2_6 := k2.cell 6 rfl; have p2_7 := k2.cell 7 rfl; have p2_8 := k2.cell 8 rfl; have p3_0 := k3.cell 0 rfl; have p3_1 := k3.cell 1 rfl; have p3_2 := k3.cell 2 rfl; have p3_3 := k3.cell 3 rfl; have p3_4 := k3.cell 4 rfl; have p3_5 := k3.cell 5 rfl; have p3_6 := k3.cell 6 rfl; have p3_7 := k3.cell 7 rfl; have p3_8 := k3.cell 8 rfl; have p4_0 := k4.cell 0 rfl; have p4_1 := k4.cell 1 rfl; have p4_2 := k4.cell 2 rfl; have p4_3 := k4.cell 3 rfl; have p4_4 := k4.cell 4 rfl; have p4_5 := k4.cell 5 rfl; have p4_6 := k4.cell 6 rfl; have p4_7 := k4.cell 7 rfl; have p4_8 := k4.cell 8 rfl; clear k1 k2 k3 k4; go_simp; try with_reducible rfl)
          try simp only [Act.put, List.setIfInBounds_toArray, List.set_cons_zero, List.set_cons_succ]
          refine wpAnyH_ready (rs := [2]) (by kernel_rfl) (by simp) ?_
          refine (AllReadyH.cons rfl (fun K hK => ?_) AllReadyH.nil)
          go_simp
          refine (HSM.out _ hS).mono ?_
          rintro e yR1x5 ⟨rfl, hq⟩
          try (go_wp2_with fail)
          have hS2 := Q.trans hS hq
          refine hK.out _ _ (by exact hS2) (fun hHeld => ?_)
          clear hK K hHeld hS hq
          have hS := hS2
          clear hS2
          try simp only [Act.put, List.setIfInBounds_toArray, List.set_cons_zero, List.set_cons_succ]
          refine wpAnyH_ready (rs := [5]) (by kernel_rfl) (by simp) ?_
          refine (AllReadyH.cons rfl (fun K hK => ?_) AllReadyH.nil)
          go_simp
          refine (HSR.out _ hS).mono ?_
          rintro e yR1x6 ⟨rfl, hq⟩
          try (go_wp2_with fail)
          have hS2 := Q.trans hS hq
          refine hK.out _ _ (by exact hS2) (fun hHeld => ?_)
          clear hK K hHeld hS hq
          have hS := hS2
          clear hS2
          try simp only [Act.put, List.setIfInBounds_toArray, List.set_cons_zero, List.set_cons_succ]
          refine wpAnyH_take (i := 6) (v := ?vR1x7) rfl (by kernel_rfl) (by kernel_rfl) (by kernel_rfl) (fun _ _ _ h => h) (Or.inl ⟨by rfl, ?hyR1x7⟩) (by exact hS) ?rsR1x7
          case hyR1x7 => (intro uz hSw; (try dsimp only at hSw); go_simp; try with_reducible rfl)
          try simp only [Act.put, List.setIfInBounds_toArray, List.set_cons_zero, List.set_cons_succ]
          refine wpAnyH_done (by kernel_rfl) ?_ _
          have HQE := Lib.hid (HQ4.out.trans hS)
          clear hS
          go_wp2_with fail
          exact ⟨⟨m + 1, by go_num, by omega, HQE.out⟩, by simp [intOf]; omega⟩
        · have hno : ¬ (m : Int) < 3 := by omega
          have HQM := Lib.hid hqm
          clear hqm
          go_wp2_with fail
          exact ⟨⟨k + 1, by go_num, by omega, HQM.out⟩, by simp [intOf]; omega⟩
    · have hno : ¬ (k : Int) < 3 := by omega
      have HQK := Lib.hid hq
      clear hq
      go_wp2_with fail
      refine (lives_any _).mono ?_
      rintro e y9 ⟨rfl, hq9⟩
      have hqe := HQZ.out.trans (HQK.out.trans hq9)
      go_wp2_with fail
      go_ret
      exact ⟨rfl, hqe⟩
end Pg
end Go.Proofs.YtjloibgjnnknnaaGreatDoor
