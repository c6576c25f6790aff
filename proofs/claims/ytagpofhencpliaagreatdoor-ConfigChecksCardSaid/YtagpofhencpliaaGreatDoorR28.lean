/- What the program's Print of decimals comes to, by a walk through it. (and more) -/
import Derived.Test.YtagpofhencpliaaGreatDoorR00
import Derived.Test.YtagpofhencpliaaGreatDoorR14
import Derived.Test.YtagpofhencpliaaGreatDoorR08
import Derived.Test.YtagpofhencpliaaGreatDoorR02
import Derived.Test.YtagpofhencpliaaGreatDoorR15
import Derived.Test.YtagpofhencpliaaGreatDoorR20
import Derived.Test.YtagpofhencpliaaGreatDoorR10
import Derived.Test.YtagpofhencpliaaGreatDoorR13
import Derived.Test.YtagpofhencpliaaGreatDoorR06
import Derived.Test.YtagpofhencpliaaGreatDoorR17
import Derived.Test.YtagpofhencpliaaGreatDoorR07
import Derived.Test.YtagpofhencpliaaGreatDoorR04
import Derived.Test.YtagpofhencpliaaGreatDoorR11
import Derived.Test.YtagpofhencpliaaGreatDoorR03
import Derived.Test.YtagpofhencpliaaGreatDoorRows
import Derived.Test.YtagpofhencpliaaGreatDoorR22
import Derived.Test.YtagpofhencpliaaGreatDoorR21
import Derived.Test.YtagpofhencpliaaGreatDoorR19
import Derived.Test.YtagpofhencpliaaGreatDoorR09
import Derived.Test.YtagpofhencpliaaGreatDoorR05
import Derived.Deep.QuietTactic
import Derived.Deep.RegionWith
import Derived.Deep.RegionHeld3
import Derived.BigQuiet
import Derived.Laws.ResultCell
import Derived.Deep.Cut
import Derived.Deep.RegionHeld
import Derived.Laws.CopyOwn
import Derived.Laws.Tables
import Derived.Deep.CutRange
import Derived.Deep.CutBlock
import Derived.Deep.DeepCutAuto
set_option linter.unusedVariables false
set_option linter.unusedSimpArgs false
namespace Go.Proofs.YtagpofhencpliaaGreatDoor
open Go.RowKit
namespace Ep
open Er (dv cellV LF LF.of LF.nil LF.mono LF.q LF.put LF.shape LF.lst block_cells some_cells block_set wrapI num_shl okD_shl)
set_option maxHeartbeats 3200000 in
theorem print_any (g : Bool) (v : Value) (s : Nat) (L : List Int) (w : World) (hv : Lst w v L) (hl : L.length < 10000) (hd : Dm.okD L) (hs : s ≤ 1000) :
    Calls Tryz.prog 37 #[dv g v s] w fun e w' => e = .returned (.string (Dm.prt g L s)) ∧ Q w w' := by
  obtain ⟨a, c, rfl⟩ := hv.shape
  have hok := (Dm.okB_iff L).2 hd
  have MA := Lib.hid (fun u (q : Q w u) => (by
    have e := may_any g (.slice a L.length c) s L u (hv.q q) (by omega) (by omega)
    rw [hok, show decide (0 ≤ (s : Int)) = true from by simp, show decide ((s : Int) ≤ 1000) = true from by simp; omega] at e
    exact e : Calls Tryz.prog 47 #[.agg #[.bool g, .slice a L.length c, .int .i64 s]] u fun e w' => e = .returned (.bool true) ∧ Q u w'))
  have WD := Lib.hid (fun u (q : Q w u) => (by
    refine (widen_any _ L (s + 1) u (hv.q q) (by omega) (by omega)).mono ?_
    rintro e w' ⟨x, rfl, ho, hq⟩
    exact ⟨x, rfl, ho.lst, hq⟩ : Calls Tryz.prog 64 #[.slice a L.length c, .int .i64 ((s : Int) + 1)] u fun e w' => ∃ x, e = .returned x ∧ Lst w' x (Dm.wid L s) ∧ Q u w'))
  have hwl := Dm.wid_len L s
  have TX := Lib.hid (fun u x (hx : Lst u x (Dm.wid L s)) => Dw.text_any x (Dm.wid L s) u hx (by omega) (Dm.wid_ok L s hd))
  have hsz := Dm.txt_size (Dm.wid L s)
  have HPR := Lib.hid (show Dm.prt g L s = if g = true then Dm.minB ++ Dm.ptx (Dm.txtB (Dm.wid L s)) s else Dm.ptx (Dm.txtB (Dm.wid L s)) s from rfl)
  rw [HPR.out]
  clear HPR
  generalize Dm.txtB (Dm.wid L s) = T at *
  obtain ⟨p, hp⟩ : ∃ p, p = (Dm.wid L s).length := ⟨_, rfl⟩
  rw [← hp] at hsz hwl
  generalize Dm.wid L s = P at *
  generalize L.length = n at *
  have HK := Lib.hid (fun u (q : Q (w.alloc (.cells #[.bool g, .slice a n c, .int .i64 s] 36)) u) => block_cells ((q.block (lt_of_block (heap_alloc_new w _))).trans (heap_alloc_new w _)))
  have hq0 : Q w (w.alloc (.cells #[.bool g, .slice a n c, .int .i64 s] 36)) := (Q.refl w).alloc _
  have HQ0 := Lib.hid hq0
  have hsp : s < p := by omega
  have hp3 : p < 100000 := by omega
  clear hq0 hv hok hwl hp
  have hptx : Dm.ptx T s = if s = 0 then T else T.extract 0 (p - s) ++ Dm.dotB ++ T.extract (p - s) p := by unfold Dm.ptx; rw [hsz]
  rcases (show s = 0 ∨ 0 < s from by omega) with hs0 | hs0
  · subst hs0
    rw [if_pos rfl] at hptx
    rw [hptx]
    clear hptx
    cases g
    all_goals
      go_enter Tryz.func37, Tryz.ntmps37
      unfold dv
      go_wp2_with fail
      refine (MA.out _ HQ0.out).mono ?_
      rintro e w1 ⟨rfl, hq⟩
      obtain ⟨k0, k1, k2, _, _, _⟩ := HK.out w1 hq
      have HA1 := Lib.hid hq
      clear hq
      go_wp2_with fail
      refine (WD.out _ (HQ0.out.trans HA1.out)).mono ?_
      rintro e w2 ⟨x, rfl, hx, hq⟩
      have HX := Lib.hid hx
      have HA2 := Lib.hid (HA1.out.trans hq)
      clear hq hx k0 k1 k2
      go_wp2_with fail
      refine (TX.out _ _ HX.out).mono ?_
      rintro e w3 ⟨rfl, hq⟩
      have HA3 := Lib.hid (HA2.out.trans hq)
      obtain ⟨k0, k1, k2, _, _, _⟩ := HK.out w3 HA3.out
      clear hq
      go_wp2_with fail
      go_ret
      exact ⟨rfl, HQ0.out.trans HA3.out⟩
  · obtain ⟨q, hq⟩ : ∃ q, q = p - s := ⟨_, rfl⟩
    rw [if_neg (by omega), ← hq] at hptx
    rw [hptx]
    clear hptx
    have hA1 : (T.extract 0 q).size = q := by rw [ByteArray.size_extract]; omega
    have hB1 : (T.extract q p).size = s := by rw [ByteArray.size_extract]; omega
    have hpi : (p : Int) - (s : Int) = (q : Int) := by omega
    have hqp : (q : Int) ≤ (p : Int) := by omega
    have hsi : (0 : Int) < (s : Int) := by omega
    have hqp2 : q ≤ p := by omega
    have hq2 : q < 100000 := by omega
    generalize heA : T.extract 0 q = A at *
    generalize heB : T.extract q p = Bz at *
    clear hq
    cases g
    all_goals
      go_enter Tryz.func37, Tryz.ntmps37
      unfold dv
      go_wp2_with fail
      refine (MA.out _ HQ0.out).mono ?_
      rintro e w1 ⟨rfl, hq⟩
      obtain ⟨k0, k1, k2, _, _, _⟩ := HK.out w1 hq
      have HA1 := Lib.hid hq
      clear hq
      go_wp2_with fail
      refine (WD.out _ (HQ0.out.trans HA1.out)).mono ?_
      rintro e w2 ⟨x, rfl, hx, hq⟩
      have HX := Lib.hid hx
      have HA2 := Lib.hid (HA1.out.trans hq)
      clear hq hx k0 k1 k2
      go_wp2_with fail
      refine (TX.out _ _ HX.out).mono ?_
      rintro e w3 ⟨rfl, hq⟩
      have HA3 := Lib.hid (HA2.out.trans hq)
      obtain ⟨k0, k1, k2, _, _, _⟩ := HK.out w3 HA3.out
      have HQ3 := Lib.hid (HQ0.out.trans HA3.out)
      clear hq
      go_wp2_with fail
      go_quiet (fail)
      go_wp2_with fail
      go_ret
      exact ⟨rfl, HQ3.out.drewN _⟩
end Ep
end Go.Proofs.YtagpofhencpliaaGreatDoor
namespace Go.Proofs.YtagpofhencpliaaGreatDoor
open Go.RowKit
namespace Kr
open Er (dv LF LF.of LF.nil LF.mono LF.q LF.put LF.shape LF.lst)
theorem rk_len (g : Bool) (s n : Nat) (m : Int) (L : List Int) (hl : L.length < 1900) (hd : Dm.okD L) (hn : n ≤ 1000) : (Dm.dg (Rm.rk g (Dm.st (Dm.num L) s).1 (Dm.st (Dm.num L) s).2 n m)).length ≤ L.length + n + 1 := by
  have a := Dm.num_lt L hd
  have b := Rr.st_fst_le (Dm.num L) s
  have c : Rm.lo (Dm.st (Dm.num L) s).1 (Dm.st (Dm.num L) s).2 n < 10 ^ (L.length + n) := by
    have h0 : 0 < 10 ^ n := Nat.pow_pos (by omega)
    unfold Rm.lo
    split
    · have h1 : 10 ^ (n - (Dm.st (Dm.num L) s).2) ≤ 10 ^ n := Nat.pow_le_pow_right (by omega) (by omega)
      rw [Nat.pow_add]
      calc (Dm.st (Dm.num L) s).1 * 10 ^ (n - (Dm.st (Dm.num L) s).2) ≤ Dm.num L * 10 ^ n := Nat.mul_le_mul b h1
        _ < 10 ^ L.length * 10 ^ n := Nat.mul_lt_mul_of_pos_right a h0
    · have h1 := Nat.div_le_self (Dm.st (Dm.num L) s).1 (10 ^ ((Dm.st (Dm.num L) s).2 - n))
      rw [Nat.pow_add]
      have h2 : 10 ^ L.length * 1 ≤ 10 ^ L.length * 10 ^ n := Nat.mul_le_mul_left _ h0
      omega
  have d : Rm.rk g (Dm.st (Dm.num L) s).1 (Dm.st (Dm.num L) s).2 n m ≤ Rm.lo (Dm.st (Dm.num L) s).1 (Dm.st (Dm.num L) s).2 n + 1 := by
    unfold Rm.rk
    split
    · omega
    · split <;> omega
  exact Dm.dg_len_lt (Rm.rk g (Dm.st (Dm.num L) s).1 (Dm.st (Dm.num L) s).2 n m) (L.length + n + 1) (by rw [Nat.pow_succ]; omega)
@[reducible] def rul (g1 g2 g3 sg : Bool) (v1 v2 v3 : Value) (s1 s2 s3 i0 i1 i2 i3 i4 i5 i6 : Int) : Value := .agg #[.bool g1, v1, .int .i64 s1, .bool g2, v2, .int .i64 s2, .bool g3, v3, .int .i64 s3, .bool sg, .int .i64 i0, .int .i64 i1, .int .i64 i2, .int .i64 i3, .int .i64 i4, .int .i64 i5, .int .i64 i6]
end Kr
end Go.Proofs.YtagpofhencpliaaGreatDoor
namespace Go.Proofs.YtagpofhencpliaaGreatDoor
open Go.RowKit
namespace Kr
open Er (dv LF LF.of LF.nil LF.mono LF.q LF.put LF.shape LF.lst)
def bad (i0 i2 r : Int) (L : List Int) (s : Nat) : Int := if r ≠ 0 then r else if Km.fit i0 i2 (Dm.num L) s then 0 else 4
def wh : Nat → ByteArray
  | 0 => ⟨#[109, 105, 110]⟩
  | 1 => ⟨#[109, 97, 120]⟩
  | _ => ⟨#[115, 116, 101, 112]⟩
def tx (t0 t1 t2 : ByteArray) : Nat → ByteArray
  | 0 => t0
  | 1 => t1
  | _ => t2
def Tri (w : World) (g : Bool) (L : List Int) (s : Nat) (p : D3.E) : Prop := p.1 = Dm.cg g (Dm.num L) ∧ Lst w p.2.1 (Dm.dg (Dm.st (Dm.num L) s).1) ∧ p.2.2 = ((Dm.st (Dm.num L) s).2 : Nat) ∧ p.2.1.oneCell' = true
theorem Tri.q {w w' : World} {g : Bool} {L : List Int} {s : Nat} {p : D3.E} (h : Tri w g L s p) (hq : Q w w') : Tri w' g L s p := ⟨h.1, h.2.1.q hq, h.2.2⟩
theorem Lst_past {w w' : World} {v : Value} {zs : List Int} (h : Lst w v zs) (hs : w.heap.size ≤ w'.heap.size) (ho : ∀ a n c, v = .slice (some a) n c → n ≠ 0 → w'.heap[a.block]? = w.heap[a.block]?) : Lst w' v zs := by
  rcases h with h | ⟨g, off, cap, hv, hg, h1, h2, hc⟩
  · exact .inl h
  · refine .inr ⟨g, off, cap, hv, Nat.lt_of_lt_of_le hg hs, h1, h2, fun i hi => ?_⟩
    exact (World.cell?_of_block (w := w) (w' := w') (a := ⟨g, off + i, none⟩) (ho ⟨g, off, none⟩ _ _ hv (by omega))).trans (hc i hi)
def Apt (B : Nat) (w : World) (u : Value) (g : Bool) (L : List Int) (s : Nat) (p : D3.E) : Prop := Tri w g L s p ∧ ∀ a n c, p.2.1 = .slice (some a) n c → n ≠ 0 → u.ownBlock ≠ some a.block ∧ B ≤ a.block
theorem Apt.q {B : Nat} {w w' : World} {u : Value} {g : Bool} {L : List Int} {s : Nat} {p : D3.E} (h : Apt B w u g L s p) (hq : Q w w') : Apt B w' u g L s p := ⟨h.1.q hq, h.2⟩
theorem Apt.grown {B : Nat} {w w' : World} {u v : Value} {g : Bool} {L : List Int} {s : Nat} {p : D3.E} (h : Apt B w u g L s p) (hg : w.grownBy w' u.ownBlock) (hat : v.ownBlock = u.ownBlock ∨ v.ownBlock = some (w.heap.size + 1)) : Apt B w' v g L s p := by
  obtain ⟨⟨h1, h2, h3, h4⟩, h5⟩ := h
  refine ⟨⟨h1, Lst_past h2 hg.size fun a n c e hn => hg.block _ (h2.old a n c e hn) ?_, h3, h4⟩, fun a n c e hn => ?_⟩
  · exact fun x => (h5 a n c e hn).1 x.symm
  · refine ⟨?_, (h5 a n c e hn).2⟩
    rcases hat with hat | hat
    · rw [hat]; exact (h5 a n c e hn).1
    · rw [hat]; intro x
      have := h2.old a n c e hn
      have y := Option.some.inj x
      omega
theorem apts {B : Nat} {w w' : World} {u v : Value} {g : Nat → Bool} {L : Nat → List Int} {s : Nat → Nat} {l : List D3.E} {p : D3.E} {i : Nat} (hi : l.length = i) (h : ∀ j, j < i → Apt B w u (g j) (L j) (s j) (l.getD j D3.z0)) (hp : Apt B w u (g i) (L i) (s i) p) (hg : w.grownBy w' u.ownBlock) (hat : v.ownBlock = u.ownBlock ∨ v.ownBlock = some (w.heap.size + 1)) :
    ∀ j, j < i + 1 → Apt B w' v (g j) (L j) (s j) ((l ++ [p]).getD j D3.z0) := by
  intro j hj
  by_cases e : j < i
  · rw [show (l ++ [p]).getD j D3.z0 = l.getD j D3.z0 by simp only [List.getD_eq_getElem?_getD]; rw [List.getElem?_append_left (by omega)]]
    exact (h j e).grown hg hat
  · obtain rfl : j = i := by omega
    rw [show (l ++ [p]).getD j D3.z0 = p by simp only [List.getD_eq_getElem?_getD]; rw [List.getElem?_append_right (by omega), show j - l.length = 0 by omega]; rfl]
    exact hp.grown hg hat
def SB (w Y : World) (b : Nat) (u : World) : Prop := Q w u ∧ (∀ k, k ≠ b → k < Y.heap.size → u.heap[k]? = Y.heap[k]?) ∧ Y.heap.size ≤ u.heap.size
theorem SB.of {w Y : World} (b : Nat) (h : Q w Y) : SB w Y b Y.drew := ⟨h.drew, fun _ _ _ => rfl, Nat.le_refl _⟩
theorem SB.set {w Y u : World} {b : Nat} (h : SB w Y b u) (hb : w.heap.size ≤ b) (k : Nat) (v : Value) : SB w Y b (u.setCell ⟨b, k, none⟩ v) :=
  ⟨Q.setCell h.1 hb v, fun j hj hl => (heap_setCell_other u ⟨b, k, none⟩ j v hj).trans (h.2.1 j hj hl), by simpa using h.2.2⟩
theorem SB.bk {w Y u : World} {b k : Nat} {T : TypeId} {l : List Value} (h : SB w Y b u) (hk : Bk Y k T l) (hne : k ≠ b) : Bk u k T l := (h.2.1 k hne hk.lt).trans hk
theorem SB.cell {w Y u : World} {b k o : Nat} {v : Value} (h : SB w Y b u) (hk : Y.cell? ⟨k, o, none⟩ = some v) (hl : k < Y.heap.size) (hne : k ≠ b) : u.cell? ⟨k, o, none⟩ = some v := (World.cell?_of_block (w := Y) (h.2.1 k hne hl)).trans hk
theorem Tri.sb {w Y u : World} {b : Nat} {g : Bool} {L : List Int} {s : Nat} {p : D3.E} (h : SB w Y b u) (ht : Tri Y g L s p) (hf : ∀ a n c, p.2.1 = .slice (some a) n c → n ≠ 0 → a.block ≠ b) : Tri u g L s p := ⟨ht.1, Lst_past ht.2.1 h.2.2 (fun a n c e hn => h.2.1 _ (hf a n c e hn) (ht.2.1.old a n c e hn)), ht.2.2⟩
theorem all1 {l : List Value} (h : l.all (·.oneCell') = true) : l.toArray.all (·.oneCell') = true := by simpa using h
theorem Q_row {w u : World} (h : Q w u) {b : Nat} (hb : w.heap.size ≤ b) (cs : Array Value) : Q w (u.setRow b cs) := below_setRow h hb cs
theorem SB.row {w Y u : World} {b : Nat} (h : SB w Y b u) (hb : w.heap.size ≤ b) (cs : Array Value) : SB w Y b (u.setRow b cs) :=
  ⟨Q_row h.1 hb cs, fun k hk hl => (setRow_other u b k cs hk).trans (h.2.1 k hk hl), by simpa [World.setRow] using h.2.2⟩
theorem Bk_row {u : World} {b : Nat} {T : TypeId} {l : List Value} (h : Bk u b T l) (l' : List Value) : Bk (u.setRow b l'.toArray) b T l' := setRow_heap u b l.toArray l'.toArray T (0, 0) h
theorem LF_fresh {w : World} {B : Nat} {v : Value} {xs : List Int} (h : LF w B v xs) : ∀ a n c, v = .slice (some a) n c → n ≠ 0 → B ≤ a.block := by
  rintro a n c rfl hn
  obtain ⟨a', n', c', hv, _, _, h⟩ := h
  cases hv
  exact h a rfl hn
theorem cell3 {w : World} {b i : Nat} {T : TypeId} {f : Nat → ByteArray} (h : Bk w b T [.string (f 0), .string (f 1), .string (f 2)]) (hi : i < 3) : w.cell? ⟨b, i, none⟩ = some (.string (f i)) := by
  rcases (show i = 0 ∨ i = 1 ∨ i = 2 by omega) with rfl | rfl | rfl
  · exact h.cell 0 rfl
  · exact h.cell 1 rfl
  · exact h.cell 2 rfl
end Kr
end Go.Proofs.YtagpofhencpliaaGreatDoor
