/- The document's own config: what stands while its New works. (and more) -/
import Derived.Test.YteljedefbomlgaaR00
import Derived.Test.YteljedefbomlgaaR02
import Derived.Test.YteljedefbomlgaaR27
import Derived.Test.YteljedefbomlgaaR26
import Derived.Test.YteljedefbomlgaaR37
import Derived.Test.YteljedefbomlgaaR12
import Derived.Test.YteljedefbomlgaaR06
import Derived.Test.YteljedefbomlgaaR01
import Derived.Test.YteljedefbomlgaaR08
import Derived.Test.YteljedefbomlgaaR10
import Derived.Test.YteljedefbomlgaaRows
import Derived.Test.YteljedefbomlgaaR14
import Derived.Test.YteljedefbomlgaaR25
import Derived.Test.YteljedefbomlgaaR17
import Derived.Test.YteljedefbomlgaaR16
import Derived.Test.YteljedefbomlgaaR13
import Derived.Test.YteljedefbomlgaaR23
import Derived.Test.YteljedefbomlgaaR03
import Derived.Test.YteljedefbomlgaaR05
import Derived.Test.YteljedefbomlgaaR32
import Derived.Test.YteljedefbomlgaaR18
import Derived.Test.YteljedefbomlgaaR34
import Derived.Test.YteljedefbomlgaaR36
import Derived.Test.YteljedefbomlgaaR28
import Derived.Test.YteljedefbomlgaaR35
import Derived.Deep.Cut
import Derived.Deep.RegionHeld
import Derived.Deep.QuietTactic
import Derived.BigQuiet
import Derived.Laws.CopyOwn
import Derived.Laws.Tables
set_option linter.unusedVariables false
set_option linter.unusedSimpArgs false
namespace Go.Proofs.Yteljedefbomlgaa
open Go.RowKit
namespace Kr
open Er (dv LF LF.of LF.nil LF.mono LF.q LF.put LF.shape LF.lst)
def bad (i0 i2 r : Int) (L : List Int) (s : Nat) : Int := if r ≠ 0 then r else if Km.fit i0 i2 (Dm.num L) s then 0 else 4
def wh : Nat → ByteArray
  | 0 => ⟨#[109, 105, 110]⟩
  | 1 => ⟨#[109, 97, 120]⟩
  | _ => ⟨#[115, 116, 101, 112]⟩
def tx (t0 t1 t2 : ByteArray) : Nat → ByteArray
  | 0 => t0
  | 1 => t1
  | _ => t2
def Tri (w : World) (g : Bool) (L : List Int) (s : Nat) (p : D3.E) : Prop := p.1 = Dm.cg g (Dm.num L) ∧ Lst w p.2.1 (Dm.dg (Dm.st (Dm.num L) s).1) ∧ p.2.2 = ((Dm.st (Dm.num L) s).2 : Nat) ∧ p.2.1.oneCell' = true
theorem Tri.q {w w' : World} {g : Bool} {L : List Int} {s : Nat} {p : D3.E} (h : Tri w g L s p) (hq : Q w w') : Tri w' g L s p := ⟨h.1, h.2.1.q hq, h.2.2⟩
theorem Lst_past {w w' : World} {v : Value} {zs : List Int} (h : Lst w v zs) (hs : w.heap.size ≤ w'.heap.size) (ho : ∀ a n c, v = .slice (some a) n c → n ≠ 0 → w'.heap[a.block]? = w.heap[a.block]?) : Lst w' v zs := by
  rcases h with h | ⟨g, off, cap, hv, hg, h1, h2, hc⟩
  · exact .inl h
  · refine .inr ⟨g, off, cap, hv, Nat.lt_of_lt_of_le hg hs, h1, h2, fun i hi => ?_⟩
    exact (World.cell?_of_block (w := w) (w' := w') (a := ⟨g, off + i, none⟩) (ho ⟨g, off, none⟩ _ _ hv (by omega))).trans (hc i hi)
def Apt (B : Nat) (w : World) (u : Value) (g : Bool) (L : List Int) (s : Nat) (p : D3.E) : Prop := Tri w g L s p ∧ ∀ a n c, p.2.1 = .slice (some a) n c → n ≠ 0 → u.ownBlock ≠ some a.block ∧ B ≤ a.block
theorem Apt.q {B : Nat} {w w' : World} {u : Value} {g : Bool} {L : List Int} {s : Nat} {p : D3.E} (h : Apt B w u g L s p) (hq : Q w w') : Apt B w' u g L s p := ⟨h.1.q hq, h.2⟩
theorem Apt.grown {B : Nat} {w w' : World} {u v : Value} {g : Bool} {L : List Int} {s : Nat} {p : D3.E} (h : Apt B w u g L s p) (hg : w.grownBy w' u.ownBlock) (hat : v.ownBlock = u.ownBlock ∨ v.ownBlock = some (w.heap.size + 1)) : Apt B w' v g L s p := by
  obtain ⟨⟨h1, h2, h3, h4⟩, h5⟩ := h
  refine ⟨⟨h1, Lst_past h2 hg.size fun a n c e hn => hg.block _ (h2.old a n c e hn) ?_, h3, h4⟩, fun a n c e hn => ?_⟩
  · exact fun x => (h5 a n c e hn).1 x.symm
  · refine ⟨?_, (h5 a n c e hn).2⟩
    rcases hat with hat | hat
    · rw [hat]; exact (h5 a n c e hn).1
    · rw [hat]; intro x
      have := h2.old a n c e hn
      have y := Option.some.inj x
      omega
theorem apts {B : Nat} {w w' : World} {u v : Value} {g : Nat → Bool} {L : Nat → List Int} {s : Nat → Nat} {l : List D3.E} {p : D3.E} {i : Nat} (hi : l.length = i) (h : ∀ j, j < i → Apt B w u (g j) (L j) (s j) (l.getD j D3.z0)) (hp : Apt B w u (g i) (L i) (s i) p) (hg : w.grownBy w' u.ownBlock) (hat : v.ownBlock = u.ownBlock ∨ v.ownBlock = some (w.heap.size + 1)) :
    ∀ j, j < i + 1 → Apt B w' v (g j) (L j) (s j) ((l ++ [p]).getD j D3.z0) := by
  intro j hj
  by_cases e : j < i
  · rw [show (l ++ [p]).getD j D3.z0 = l.getD j D3.z0 by simp only [List.getD_eq_getElem?_getD]; rw [List.getElem?_append_left (by omega)]]
    exact (h j e).grown hg hat
  · obtain rfl : j = i := by omega
    rw [show (l ++ [p]).getD j D3.z0 = p by simp only [List.getD_eq_getElem?_getD]; rw [List.getElem?_append_right (by omega), show j - l.length = 0 by omega]; rfl]
    exact hp.grown hg hat
def SB (w Y : World) (b : Nat) (u : World) : Prop := Q w u ∧ (∀ k, k ≠ b → k < Y.heap.size → u.heap[k]? = Y.heap[k]?) ∧ Y.heap.size ≤ u.heap.size
theorem SB.of {w Y : World} (b : Nat) (h : Q w Y) : SB w Y b Y.drew := ⟨h.drew, fun _ _ _ => rfl, Nat.le_refl _⟩
theorem SB.set {w Y u : World} {b : Nat} (h : SB w Y b u) (hb : w.heap.size ≤ b) (k : Nat) (v : Value) : SB w Y b (u.setCell ⟨b, k, none⟩ v) :=
  ⟨Q.setCell h.1 hb v, fun j hj hl => (heap_setCell_other u ⟨b, k, none⟩ j v hj).trans (h.2.1 j hj hl), by simpa using h.2.2⟩
theorem SB.bk {w Y u : World} {b k : Nat} {T : TypeId} {l : List Value} (h : SB w Y b u) (hk : Bk Y k T l) (hne : k ≠ b) : Bk u k T l := (h.2.1 k hne hk.lt).trans hk
theorem SB.cell {w Y u : World} {b k o : Nat} {v : Value} (h : SB w Y b u) (hk : Y.cell? ⟨k, o, none⟩ = some v) (hl : k < Y.heap.size) (hne : k ≠ b) : u.cell? ⟨k, o, none⟩ = some v := (World.cell?_of_block (w := Y) (h.2.1 k hne hl)).trans hk
theorem Tri.sb {w Y u : World} {b : Nat} {g : Bool} {L : List Int} {s : Nat} {p : D3.E} (h : SB w Y b u) (ht : Tri Y g L s p) (hf : ∀ a n c, p.2.1 = .slice (some a) n c → n ≠ 0 → a.block ≠ b) : Tri u g L s p := ⟨ht.1, Lst_past ht.2.1 h.2.2 (fun a n c e hn => h.2.1 _ (hf a n c e hn) (ht.2.1.old a n c e hn)), ht.2.2⟩
theorem all1 {l : List Value} (h : l.all (·.oneCell') = true) : l.toArray.all (·.oneCell') = true := by simpa using h
theorem Q_row {w u : World} (h : Q w u) {b : Nat} (hb : w.heap.size ≤ b) (cs : Array Value) : Q w (u.setRow b cs) := below_setRow h hb cs
theorem SB.row {w Y u : World} {b : Nat} (h : SB w Y b u) (hb : w.heap.size ≤ b) (cs : Array Value) : SB w Y b (u.setRow b cs) :=
  ⟨Q_row h.1 hb cs, fun k hk hl => (setRow_other u b k cs hk).trans (h.2.1 k hk hl), by simpa [World.setRow] using h.2.2⟩
theorem Bk_row {u : World} {b : Nat} {T : TypeId} {l : List Value} (h : Bk u b T l) (l' : List Value) : Bk (u.setRow b l'.toArray) b T l' := setRow_heap u b l.toArray l'.toArray T (0, 0) h
theorem LF_fresh {w : World} {B : Nat} {v : Value} {xs : List Int} (h : LF w B v xs) : ∀ a n c, v = .slice (some a) n c → n ≠ 0 → B ≤ a.block := by
  rintro a n c rfl hn
  obtain ⟨a', n', c', hv, _, _, h⟩ := h
  cases hv
  exact h a rfl hn
theorem cell3 {w : World} {b i : Nat} {T : TypeId} {f : Nat → ByteArray} (h : Bk w b T [.string (f 0), .string (f 1), .string (f 2)]) (hi : i < 3) : w.cell? ⟨b, i, none⟩ = some (.string (f i)) := by
  rcases (show i = 0 ∨ i = 1 ∨ i = 2 by omega) with rfl | rfl | rfl
  · exact h.cell 0 rfl
  · exact h.cell 1 rfl
  · exact h.cell 2 rfl
end Kr
end Go.Proofs.Yteljedefbomlgaa
namespace Go.Proofs.Yteljedefbomlgaa
open Go.RowKit
namespace Kp
open Er (dv LF LF.of LF.nil LF.mono LF.q LF.put LF.shape LF.lst)
theorem clamp_any (g0 g1 g2 : Bool) (v0 v1 v2 : Value) (s0 s1 s2 : Nat) (L0 L1 L2 : List Int) (w : World) (h0 : Lst w v0 L0) (h1 : Lst w v1 L1) (h2 : Lst w v2 L2) (hl0 : L0.length < 10000) (hl1 : L1.length < 10000) (hl2 : L2.length < 10000) (hd0 : Dm.okD L0) (hd1 : Dm.okD L1) (hd2 : Dm.okD L2) (hs0 : s0 ≤ 1000) (hs1 : s1 ≤ 1000) (hs2 : s2 ≤ 1000) (hk : ¬ 0 < Dm.cmpD g1 (Dm.num L1) s1 g2 (Dm.num L2) s2) (V : Km.De) (hV : V = Km.clp ⟨g0, Dm.num L0, s0⟩ ⟨g1, Dm.num L1, s1⟩ ⟨g2, Dm.num L2, s2⟩) :
    Calls Try.prog 39 #[dv g0 v0 s0, dv g1 v1 s1, dv g2 v2 s2] w fun e w' => ∃ u, e = .returned (.tuple #[dv V.g u (V.s : Nat), .int .i64 0]) ∧ LF w' w.heap.size u (Dm.dg V.m) ∧ Q w w' := by
  subst hV
  unfold Km.clp
  by_cases c1 : Km.cmp ⟨g0, Dm.num L0, s0⟩ ⟨g1, Dm.num L1, s1⟩ < 0
  · rw [if_pos c1]
    refine (Rq.clamp_low g0 g1 g2 v0 v1 v2 s0 s1 s2 L0 L1 L2 w h0 h1 h2 hl0 hl1 hl2 hd0 hd1 hd2 hs0 hs1 hs2 hk c1).mono ?_
    rintro e w' ⟨u, rfl, hu, hq⟩
    exact ⟨u, rfl, hu.mono (by omega), hq⟩
  · rw [if_neg c1]
    by_cases c2 : 0 < Km.cmp ⟨g0, Dm.num L0, s0⟩ ⟨g2, Dm.num L2, s2⟩
    · rw [if_pos c2]
      refine (Rq.clamp_high g0 g1 g2 v0 v1 v2 s0 s1 s2 L0 L1 L2 w h0 h1 h2 hl0 hl1 hl2 hd0 hd1 hd2 hs0 hs1 hs2 hk c1 c2).mono ?_
      rintro e w' ⟨u, rfl, hu, hq⟩
      exact ⟨u, rfl, hu.mono (by omega), hq⟩
    · rw [if_neg c2]
      refine (Rq.clamp_mid g0 g1 g2 v0 v1 v2 s0 s1 s2 L0 L1 L2 w h0 h1 h2 hl0 hl1 hl2 hd0 hd1 hd2 hs0 hs1 hs2 hk c1 c2).mono ?_
      rintro e w' ⟨u, rfl, hu, hq⟩
      exact ⟨u, rfl, hu.mono (by omega), hq⟩
set_option maxRecDepth 100000 in
set_option maxHeartbeats 4000000 in
theorem value_any (g1 g2 g3 sg g : Bool) (v1 v2 v3 v : Value) (s1 s2 s n : Nat) (s3 i0 i1 i3 i4 m i6 : Int) (L1 L2 L : List Int) (w : World) (h1 : Lst w v1 L1) (h2 : Lst w v2 L2) (hv : Lst w v L)
    (hl1 : L1.length < 10000) (hl2 : L2.length < 10000) (hl : L.length < 1900) (hd1 : Dm.okD L1) (hd2 : Dm.okD L2) (hd : Dm.okD L) (hs1 : s1 ≤ 1000) (hs2 : s2 ≤ 1000) (hs : s ≤ 1000) (hn : n ≤ 1000) (hm : 0 ≤ m ∧ m ≤ 6)
    (hk : ¬ 0 < Dm.cmpD g1 (Dm.num L1) s1 g2 (Dm.num L2) s2) (V : Km.De) (hV : V = Km.val ⟨g1, Dm.num L1, s1⟩ ⟨g2, Dm.num L2, s2⟩ n m ⟨g, Dm.num L, s⟩) :
    Calls Try.prog 14 #[Kr.rul g1 g2 g3 sg v1 v2 v3 s1 s2 s3 i0 i1 (n : Nat) i3 i4 m i6, dv g v s] w fun e w' => ∃ u, e = .returned (.tuple #[dv V.g u (V.s : Nat), .int .i64 0]) ∧ LF w' w.heap.size u (Dm.dg V.m) ∧ Q w w' := by
  have hrl := Kr.rk_len g s n m L hl hd hn
  have HT := Lib.hid (fun u (q : Q w u) => Rq.to_any g v s n m L u (hv.q q) (by omega) hd hs hn hm)
  have hV2 : V = Km.clp (Km.rnd ⟨g, Dm.num L, s⟩ n m) ⟨g1, Dm.num L1, s1⟩ ⟨g2, Dm.num L2, s2⟩ := hV
  have hrd : Km.rnd ⟨g, Dm.num L, s⟩ n m = ⟨Dm.cg g (Rm.rk g (Dm.st (Dm.num L) s).1 (Dm.st (Dm.num L) s).2 n m), Rm.rk g (Dm.st (Dm.num L) s).1 (Dm.st (Dm.num L) s).2 n m, n⟩ := rfl
  rw [hrd] at hV2
  clear hV hrd
  generalize Rm.rk g (Dm.st (Dm.num L) s).1 (Dm.st (Dm.num L) s).2 n m = rk at *
  generalize Dm.cg g rk = gx at *
  have hdx := Dm.okD_dg rk
  have hnx := Dm.num_dg rk
  rw [← hnx] at hV2
  have HC := Lib.hid (fun u xv (q : Q w u) (hx : Lst u xv (Dm.dg rk)) => clamp_any gx g1 g2 xv v1 v2 n s1 s2 (Dm.dg rk) L1 L2 u hx (h1.q q) (h2.q q) (by omega) hl1 hl2 hdx hd1 hd2 hn hs1 hs2 hk V hV2)
  obtain ⟨a, c, rfl⟩ := hv.shape
  obtain ⟨a1, c1, rfl⟩ := h1.shape
  obtain ⟨a2, c2, rfl⟩ := h2.shape
  obtain ⟨ln, hln⟩ : ∃ k, k = (Dm.dg rk).length := ⟨_, rfl⟩
  have HLN := Lib.hid hln.symm
  clear hln hrl hdx hnx hV2 hk hl1 hl2 hd1 hd2 hl hd
  generalize L.length = lL at *
  generalize L1.length = n1 at *
  generalize L2.length = n2 at *
  unfold dv at HT HC ⊢
  obtain ⟨y1, hy1⟩ : ∃ y, y = w.alloc (.cells #[.bool g1, .slice a1 n1 c1, .int .i64 s1, .bool g2, .slice a2 n2 c2, .int .i64 s2, .bool g3, v3, .int .i64 s3, .bool sg, .int .i64 i0, .int .i64 i1, .int .i64 n, .int .i64 i3, .int .i64 i4, .int .i64 m, .int .i64 i6] 32) := ⟨_, rfl⟩
  have hQ1 : Q w y1 := by rw [hy1]; exact (Q.refl w).alloc _
  have hb1 : Bk y1 w.heap.size 32 [.bool g1, .slice a1 n1 c1, .int .i64 s1, .bool g2, .slice a2 n2 c2, .int .i64 s2, .bool g3, v3, .int .i64 s3, .bool sg, .int .i64 i0, .int .i64 i1, .int .i64 n, .int .i64 i3, .int .i64 i4, .int .i64 m, .int .i64 i6] := by rw [hy1]; exact Bk.new _ _ _
  have hs1 : y1.heap.size = w.heap.size + 1 := by rw [hy1]; simp
  obtain ⟨y2, hy2⟩ : ∃ y, y = y1.alloc (.cells #[.bool g, .slice a lL c, .int .i64 s] 29) := ⟨_, rfl⟩
  have hq2 : Q y1 y2 := by rw [hy2]; exact (Q.refl y1).alloc _
  have hb2 : Bk y2 (w.heap.size + 1) 29 [.bool g, .slice a lL c, .int .i64 s] := by rw [hy2, ← hs1]; exact Bk.new _ _ _
  have hs2 : y2.heap.size = w.heap.size + 1 + 1 := by rw [hy2]; simp; omega
  obtain ⟨z, hz⟩ : ∃ y, y = y2.alloc (.cells #[.bool false, .slice none 0 0, .int .i64 0] 29) := ⟨_, rfl⟩
  have hq3 : Q y2 z := by rw [hz]; exact (Q.refl y2).alloc _
  have hb3 : Bk z (w.heap.size + 1 + 1) 29 [.bool false, .slice none 0 0, .int .i64 0] := by rw [hz, ← hs2]; exact Bk.new _ _ _
  have HQZ := Lib.hid (show Q w z from hQ1.trans (hq2.trans hq3))
  have HR := Lib.hid (hb1.q (hq2.trans hq3))
  have hd := hb2.q hq3
  have HO := Lib.hid hb3
  have d0 := hd.cell 0 rfl
  have d1 := hd.cell 1 rfl
  have d2 := hd.cell 2 rfl
  have r12 := HR.out.cell 12 rfl
  have r15 := HR.out.cell 15 rfl
  go_enter Try.func14, Try.ntmps14
  go_upto_region 1 with fail
  first | rw [← hy1, ← hy2, ← hz] | (rw [hy1] at hy2; rw [hy2] at hz; rw [← hz])
  clear hQ1 hb1 hy1 hs1 hq2 hb2 hs2 hy2 hz hq3 hb3 hd
  go_wp2_with fail
  refine (HT.out _ HQZ.out).mono ?_
  rintro e w1 ⟨x, rfl, hx, hq1⟩
  have HXL := Lib.hid hx.lst
  obtain ⟨xa, xc, rfl, _, _⟩ := hx.lst.form0 HLN.out
  obtain ⟨W1, hW1⟩ : ∃ y, y = w1.alloc (.cells #[.bool gx, .slice xa ln xc, .int .i64 n] 29) := ⟨_, rfl⟩
  have hqa : Q z W1 := by rw [hW1]; exact hq1.alloc _
  have HQ1 := Lib.hid (HQZ.out.trans hqa)
  have hbx : Bk W1 w1.heap.size 29 [.bool gx, .slice xa ln xc, .int .i64 n] := by rw [hW1]; exact Bk.new _ _ _
  have HX1 := Lib.hid (HXL.out.q (show Q w1 W1 by rw [hW1]; exact (Q.refl w1).alloc _))
  replace HR := Lib.hid (HR.out.q hqa)
  replace HO := Lib.hid (HO.out.q hqa)
  obtain ⟨bX, hbX⟩ : ∃ b, b = w1.heap.size := ⟨_, rfl⟩
  rw [← hbX] at hbx
  clear hx hq1 hqa d0 d1 d2 r12 r15
  go_upto_region 2 with fail
  rw [← hW1, ← hbX]
  clear hW1 hbX
  have x0 := hbx.cell 0 rfl
  have x1 := hbx.cell 1 rfl
  have x2 := hbx.cell 2 rfl
  have r0 := HR.out.cell 0 rfl
  have r1 := HR.out.cell 1 rfl
  have r2 := HR.out.cell 2 rfl
  have r3 := HR.out.cell 3 rfl
  have r4 := HR.out.cell 4 rfl
  have r5 := HR.out.cell 5 rfl
  clear hbx
  go_wp2_with fail
  refine (HC.out _ _ HQ1.out HX1.out).mono ?_
  rintro e w2 ⟨u, rfl, hu, hq2⟩
  have HQ2 := Lib.hid (HQ1.out.trans hq2)
  have ho := HO.out.q hq2
  obtain ⟨ua, uc, rfl⟩ := hu.shape
  have HU := Lib.hid hu
  have hW1 : w.heap.size + 1 + 1 < W1.heap.size := Bk.lt HO.out
  have p0 := ho.cell 0 rfl
  have p1 := ho.cell 1 rfl
  have p2 := ho.cell 2 rfl
  have f0 := ho.free 0
  have f1 := ho.free 1
  have f2 := ho.free 2
  have HO3 := Lib.hid (show Bk _ (w.heap.size + 1 + 1) 29 [.bool V.g, .slice ua (Dm.dg V.m).length uc, .int .i64 (V.s : Nat)] from ((ho.set 0 (.bool V.g)).set 1 (.slice ua (Dm.dg V.m).length uc)).set 2 (.int .i64 (V.s : Nat)))
  have HQ3 := Lib.hid (((HQ2.out.setCell (ad := ⟨w.heap.size + 1 + 1, 0, none⟩) (by show w.heap.size ≤ w.heap.size + 1 + 1; omega) (.bool V.g)).setCell (ad := ⟨w.heap.size + 1 + 1, 1, none⟩) (by show w.heap.size ≤ w.heap.size + 1 + 1; omega) (.slice ua (Dm.dg V.m).length uc)).setCell (ad := ⟨w.heap.size + 1 + 1, 2, none⟩) (by show w.heap.size ≤ w.heap.size + 1 + 1; omega) (.int .i64 (V.s : Nat)))
  clear ho hq2 hu
  go_wp2_with fail
  refine Ep.ret_dv2 (b := V.g) (v := .slice ua (Dm.dg V.m).length uc) (s := (V.s : Nat)) rfl rfl rfl HO3.out rfl ⟨_, rfl, ?_, HQ3.out⟩
  exact (HU.out.put hW1 _ _ _).mono (by omega)
end Kp
end Go.Proofs.Yteljedefbomlgaa
