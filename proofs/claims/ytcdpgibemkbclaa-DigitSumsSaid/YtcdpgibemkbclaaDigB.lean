/- Three lists of lists, and a list, of the call's own, while one of them is written. -/
import Derived.Test.YtcdpgibemkbclaaRows
import Derived.Test.YtcdpgibemkbclaaDigL
import Derived.Test.YtcdpgibemkbclaaInts
import Derived.Test.YtcdpgibemkbclaaEls
import Derived.Test.YtcdpgibemkbclaaSto
import Derived.Test.YtcdpgibemkbclaaDigR
import Derived.Test.YtcdpgibemkbclaaDigX
import Derived.Test.YtcdpgibemkbclaaDigY
set_option linter.unusedVariables false
set_option linter.unusedSimpArgs false
namespace Go.Proofs.Ytcdpgibemkbclaa
open Go.RowKit
/-- Lists of lists of the call's own. -/
abbrev SO (w : World) (B : Nat) (v : Value) (ls : List Sl) : Prop := GOwn 22 Sl.v w B v ls
theorem Own.keep {w w' : World} {B B' : Nat} {u v : Value} {ys : List Int} {ls : List Sl} (h : Own w B u ys) (hs : SO w B' v ls) (hg : w.grownBy w' v.ownBlock) : Own w' B u ys :=
  h.same fun g hu => hg.block g (h.lt g hu).2 (fun e => hs.not_int h (by decide) g e.symm hu)
theorem SO.keep {w w' : World} {B : Nat} {u v : Value} {ks : List Sl} (h : SO w B u ks) (ha : Apart v u) (hg : w.grownBy w' v.ownBlock) : SO w' B u ks :=
  GOwn.same h fun g hu => hg.block g (GOwn.lt h g hu).2 (fun e => ha g e.symm hu)
theorem Apart.pushS {w : World} {B n : Nat} {v v' u : Value} {ls : List Sl} (h : SO w B u ls) (ha : Apart v u) (hn : w.heap.size ≤ n) (hat : v'.ownBlock = v.ownBlock ∨ v'.ownBlock = some n) : Apart v' u := by
  intro g hv hu
  rcases hat with e | e
  · exact ha g (e ▸ hv) hu
  · rw [e] at hv
    have := (GOwn.lt h g hu).2
    cases hv; omega
/-- A slice of the call's own, small, of digits. -/
def Sl.own (w : World) (B : Nat) (s : Sl) : Prop := Own w B s.v s.zs ∧ s.zs.length = s.n ∧ s.n ≤ 20 ∧ Dm.okD s.zs
structure BT (w wr : World) (v3 v4 v5 v7 : Value) (raws owns turns : List Sl) (wl : List Int) : Prop where
  q : Q w wr
  g3 : SO wr w.heap.size v3 raws
  g4 : SO wr w.heap.size v4 owns
  g5 : SO wr w.heap.size v5 turns
  a34 : Apart v3 v4
  a35 : Apart v3 v5
  a45 : Apart v4 v5
  r3 : ∀ s ∈ raws, s.ok w ∧ s.n ≤ 20
  r4 : ∀ s ∈ owns, s.own wr w.heap.size
  r5 : ∀ s ∈ turns, s.own wr w.heap.size
  o7 : Own wr w.heap.size v7 wl
theorem BT.start (w : World) : BT w w (.slice none 0 0) (.slice none 0 0) (.slice none 0 0) (.slice none 0 0) [] [] [] [] :=
  ⟨Q.refl _, GOwn.nil _ _ _ _, GOwn.nil _ _ _ _, GOwn.nil _ _ _ _, Apart.nilL _, Apart.nilL _, Apart.nilL _, fun s h => absurd h List.not_mem_nil, fun s h => absurd h List.not_mem_nil, fun s h => absurd h List.not_mem_nil, Own.nil _ _⟩
theorem Sl.own.q {w w' : World} {B : Nat} {s : Sl} (h : s.own w B) (hq : Q w w') : s.own w' B := ⟨h.1.q hq, h.2⟩
theorem BT.go {w wr wr' : World} {v3 v4 v5 v7 : Value} {raws owns turns : List Sl} {wl : List Int} (h : BT w wr v3 v4 v5 v7 raws owns turns wl) (hq : Q wr wr') : BT w wr' v3 v4 v5 v7 raws owns turns wl :=
  ⟨h.q.trans hq, GOwn.q h.g3 hq, GOwn.q h.g4 hq, GOwn.q h.g5 hq, h.a34, h.a35, h.a45, h.r3, fun s hs => (h.r4 s hs).q hq, fun s hs => (h.r5 s hs).q hq, h.o7.q hq⟩
theorem BT.push3 {w wr wr' : World} {v3 v3' v4 v5 v7 : Value} {raws owns turns : List Sl} {wl : List Int} (h : BT w wr v3 v4 v5 v7 raws owns turns wl) {s : Sl} (hs : s.ok w ∧ s.n ≤ 20)
    (hg : SO wr' w.heap.size v3' (raws ++ [s])) (hgr : wr.grownBy wr' v3.ownBlock) (hat : v3'.ownBlock = v3.ownBlock ∨ v3'.ownBlock = some (wr.heap.size + 1)) : BT w wr' v3' v4 v5 v7 (raws ++ [s]) owns turns wl :=
  ⟨h.q.grown hgr (fun g hg => (GOwn.lt h.g3 g hg).1), hg, SO.keep h.g4 h.a34 hgr, SO.keep h.g5 h.a35 hgr, Apart.pushS h.g4 h.a34 (by omega) hat, Apart.pushS h.g5 h.a35 (by omega) hat, h.a45,
   fun t ht => by
    rcases List.mem_append.1 ht with ht | ht
    · exact h.r3 t ht
    · rw [List.mem_singleton] at ht; subst ht; exact hs,
   fun t ht => ⟨(h.r4 t ht).1.keep h.g3 hgr, (h.r4 t ht).2⟩, fun t ht => ⟨(h.r5 t ht).1.keep h.g3 hgr, (h.r5 t ht).2⟩, h.o7.keep h.g3 hgr⟩
theorem BT.push4 {w wr wr' : World} {v3 v4 v4' v5 v7 : Value} {raws owns turns : List Sl} {wl : List Int} (h : BT w wr v3 v4 v5 v7 raws owns turns wl) {s : Sl} (hs : s.own wr w.heap.size)
    (hg : SO wr' w.heap.size v4' (owns ++ [s])) (hgr : wr.grownBy wr' v4.ownBlock) (hat : v4'.ownBlock = v4.ownBlock ∨ v4'.ownBlock = some (wr.heap.size + 1)) : BT w wr' v3 v4' v5 v7 raws (owns ++ [s]) turns wl ∧ s.own wr' w.heap.size :=
  ⟨⟨h.q.grown hgr (fun g hg => (GOwn.lt h.g4 g hg).1), SO.keep h.g3 h.a34.symm hgr, hg, SO.keep h.g5 h.a45 hgr, (Apart.pushS h.g3 h.a34.symm (by omega) hat).symm, h.a35, Apart.pushS h.g5 h.a45 (by omega) hat, h.r3,
   fun t ht => by
    rcases List.mem_append.1 ht with ht | ht
    · exact ⟨(h.r4 t ht).1.keep h.g4 hgr, (h.r4 t ht).2⟩
    · rw [List.mem_singleton] at ht; subst ht; exact ⟨hs.1.keep h.g4 hgr, hs.2⟩,
   fun t ht => ⟨(h.r5 t ht).1.keep h.g4 hgr, (h.r5 t ht).2⟩, h.o7.keep h.g4 hgr⟩, ⟨hs.1.keep h.g4 hgr, hs.2⟩⟩
theorem BT.set5 {w wr wr' : World} {v3 v4 v5 v5' v7 : Value} {raws owns turns turns' : List Sl} {wl : List Int} (h : BT w wr v3 v4 v5 v7 raws owns turns wl) (hq : Q wr wr')
    (hg : SO wr' w.heap.size v5' turns') (hn : ∀ g, v5'.ownBlock = some g → wr.heap.size ≤ g) (hr : ∀ s ∈ turns', s.own wr' w.heap.size) : BT w wr' v3 v4 v5' v7 raws owns turns' wl :=
  ⟨h.q.trans hq, GOwn.q h.g3 hq, GOwn.q h.g4 hq, hg, h.a34, fun g h3 h5 => by have h1 := (GOwn.lt h.g3 g h3).2; have h2 := hn g h5; omega, fun g h4 h5 => by have h1 := (GOwn.lt h.g4 g h4).2; have h2 := hn g h5; omega, h.r3, fun s hs => (h.r4 s hs).q hq, hr, h.o7.q hq⟩
theorem BT.set7 {w wr wr' : World} {v3 v4 v5 v7 v7' : Value} {raws owns turns : List Sl} {wl wl' : List Int} (h : BT w wr v3 v4 v5 v7 raws owns turns wl) (hq : Q wr wr') (ho : Own wr' w.heap.size v7' wl') : BT w wr' v3 v4 v5 v7' raws owns turns wl' :=
  ⟨h.q.trans hq, GOwn.q h.g3 hq, GOwn.q h.g4 hq, GOwn.q h.g5 hq, h.a34, h.a35, h.a45, h.r3, fun s hs => (h.r4 s hs).q hq, fun s hs => (h.r5 s hs).q hq, ho⟩
theorem Sl.own.ok {w : World} {B : Nat} {s : Sl} (h : s.own w B) : s.ok w := ⟨h.1.lst, h.2.1⟩
theorem BT.ll3 {w wr : World} {v3 v4 v5 v7 : Value} {raws owns turns : List Sl} {wl : List Int} (h : BT w wr v3 v4 v5 v7 raws owns turns wl) : LL wr v3 raws := ⟨GOwn.lst h.g3, fun s hs => (h.r3 s hs).1.q h.q⟩
theorem BT.ll4 {w wr : World} {v3 v4 v5 v7 : Value} {raws owns turns : List Sl} {wl : List Int} (h : BT w wr v3 v4 v5 v7 raws owns turns wl) : LL wr v4 owns := ⟨GOwn.lst h.g4, fun s hs => (h.r4 s hs).ok⟩
theorem BT.ll5 {w wr : World} {v3 v4 v5 v7 : Value} {raws owns turns : List Sl} {wl : List Int} (h : BT w wr v3 v4 v5 v7 raws owns turns wl) : LL wr v5 turns := ⟨GOwn.lst h.g5, fun s hs => (h.r5 s hs).ok⟩
theorem okA_own {w : World} {B : Nat} {ls : List Sl} (h : ∀ s ∈ ls, s.own w B) : Dw.okA ls = true := List.all_eq_true.2 fun s hs => (Dm.okB_iff _).2 (h s hs).2.2.2
theorem okA_snoc (ls : List Sl) (s : Sl) : Dw.okA (ls ++ [s]) = (Dw.okA ls && Dm.okB s.zs) := by simp [Dw.okA]
theorem sumN_snoc (ls : List Sl) (s : Sl) : Dw.sumN (ls ++ [s]) = Dw.sumN ls + Dm.num s.zs := by simp [Dw.sumN]
theorem sumN_cons (s : Sl) (ls : List Sl) : Dw.sumN ([s] ++ ls) = Dm.num s.zs + Dw.sumN ls := by simp [Dw.sumN]
/-- Digits stay what they are. -/
theorem gdL_same (zs : List Int) (n : Nat) (h : Dm.okD (zs.take n)) : Dm.gdL zs n = zs.take n := by
  unfold Dm.gdL
  conv => rhs; rw [← List.map_id (zs.take n)]
  apply List.map_congr_left
  intro d hd
  have h1 := h d hd
  show Um.around d 10 = d
  unfold Um.around
  rw [if_neg (by omega)]
  omega
end Go.Proofs.Ytcdpgibemkbclaa
