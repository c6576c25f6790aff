/- Lists of the call's own that are written in place; lists that are made empty or full; a list's rest; a list of lists. (and more) -/
import Derived.Test.YtagpofhencpliaaGreatDoorR00
import Derived.Test.YtagpofhencpliaaGreatDoorR02
import Derived.Test.YtagpofhencpliaaGreatDoorRows
import Derived.Laws.OwnMore
import Derived.OwnWalk
import Derived.Laws.CopyOwn
import Derived.Deep.QuietTactic
import Derived.Deep.RegionHeld3
import Derived.Deep.AppendLies
import Derived.Deep.DrawnRows
import Derived.BigQuiet
import Derived.IntWalk
import Derived.ChangeSame
import Derived.ChangeVars
import Derived.JoinedOf
import Derived.RowKit
import Derived.RowKitTokens
import Derived.LaidLaws
import Derived.LaidHandle
import Derived.Stop.Joined
import Derived.Lib.LaidTab
import Derived.Stop.LaidErr
import Derived.SliceStrings
import Derived.OpenShut
import Derived.Deep.RegionWith
import Derived.ShutString
set_option linter.unusedVariables false
set_option linter.unusedSimpArgs false
namespace Go.Proofs.YtagpofhencpliaaGreatDoor
open Go.RowKit
theorem GOwn.cellAt {α : Type} {T : TypeId} {en : α → Value} {w : World} {B g n cap : Nat} {zs : List α} (h : GOwn T en w B (.slice (some ⟨g, 0, none⟩) n cap) zs) (hn : zs.length = n) {k : Nat} {x : α} (hk : zs[k]? = some x) : w.cell? ⟨g, k, none⟩ = some (en x) := by
  subst hn
  have hl := (List.getElem?_eq_some_iff.1 hk).1
  rw [World.ownsRow.cellAt h k (by omega), List.getElem?_map, hk]; rfl
theorem GOwn.freeAt {α : Type} {T : TypeId} {en : α → Value} {w : World} {B g n cap : Nat} {zs : List α} (h : GOwn T en w B (.slice (some ⟨g, 0, none⟩) n cap) zs) (hn : zs.length = n) (k : Nat) : w.frozen? ⟨g, k, none⟩ = false := by
  subst hn
  exact World.ownsRow.frozenAt h k
theorem GOwn.stored {α : Type} {T : TypeId} {en : α → Value} {w : World} {B g n cap : Nat} {zs : List α} (h : GOwn T en w B (.slice (some ⟨g, 0, none⟩) n cap) zs) (hn : zs.length = n) (k : Nat) (x : α) : GOwn T en (w.setCell ⟨g, k, none⟩ (en x)) B (.slice (some ⟨g, 0, none⟩) n cap) (zs.set k x) := by
  subst hn
  have := (World.ownsRow.stored h k (en x)).1
  unfold GOwn
  rw [List.length_set, List.map_set]
  exact this
theorem Own.cellAt {w : World} {B g n cap : Nat} {zs : List Int} (h : Own w B (.slice (some ⟨g, 0, none⟩) n cap) zs) (hn : zs.length = n) {k : Nat} (hk : k < n) : w.cell? ⟨g, k, none⟩ = some (.int .i64 (zs.getD k 0)) := by
  refine GOwn.cellAt (T := 3) (en := Value.int .i64) h hn ?_
  rw [List.getD_eq_getElem?_getD, List.getElem?_eq_getElem (by omega)]; rfl
theorem Own.freeAt {w : World} {B g n cap : Nat} {zs : List Int} (h : Own w B (.slice (some ⟨g, 0, none⟩) n cap) zs) (hn : zs.length = n) (k : Nat) : w.frozen? ⟨g, k, none⟩ = false :=
  GOwn.freeAt (T := 3) (en := Value.int .i64) h hn k
theorem Own.stored {w : World} {B g n cap : Nat} {zs : List Int} (h : Own w B (.slice (some ⟨g, 0, none⟩) n cap) zs) (hn : zs.length = n) (k : Nat) (x : Int) : Own (w.setCell ⟨g, k, none⟩ (.int .i64 x)) B (.slice (some ⟨g, 0, none⟩) n cap) (zs.set k x) :=
  GOwn.stored (T := 3) (en := Value.int .i64) h hn k x
theorem Own.head {w : World} {B n : Nat} {v : Value} {zs : List Int} (h : Own w B v zs) (hn : zs.length = n) (h0 : 0 < n) : ∃ g cap, v = .slice (some ⟨g, 0, none⟩) n cap ∧ B ≤ g ∧ g < w.heap.size ∧ n ≤ cap ∧ cap ≤ maxLen := by
  rcases h.2 with ⟨_, hz⟩ | ⟨g, cap, cur, hv, hg, hh, hnc, hcm, _⟩
  · omega
  · rw [hn] at hv hnc
    exact ⟨g, cap, hv, hg, (Array.getElem?_eq_some_iff.1 hh).1, hnc, hcm⟩
theorem Q.setCell {a w : World} (h : Q a w) {ad : Addr} (hg : a.heap.size ≤ ad.block) (u : Value) : Q a (w.setCell ad u) :=
  Below.trans h ⟨rfl, rfl, rfl, by simp, fun k hk => heap_setCell_other w ad k u (by omega)⟩
theorem Lst.setCell {w : World} {v : Value} {zs : List Int} (h : Lst w v zs) {ad : Addr} (u : Value) (ho : ∀ a n c, v = .slice (some a) n c → n ≠ 0 → a.block ≠ ad.block) : Lst (w.setCell ad u) v zs := by
  rcases h with h | ⟨g, off, cap, hv, hg, h1, h2, hc⟩
  · exact .inl h
  · by_cases h0 : zs.length = 0
    · have : zs = [] := List.eq_nil_of_length_eq_zero h0
      subst this
      exact .inl ⟨rfl, _, _, hv, h2, fun h => by cases h⟩
    · refine .inr ⟨g, off, cap, hv, by simpa using hg, h1, h2, fun i hi => ?_⟩
      rw [World.cell?_of_block (w := w) (heap_setCell_other w ad g u (fun e => ho _ _ _ hv h0 e))]
      exact hc i hi
theorem Lst.old {w : World} {v : Value} {zs : List Int} (h : Lst w v zs) : ∀ a n c, v = .slice (some a) n c → n ≠ 0 → a.block < w.heap.size := by
  rintro a n c rfl hn
  rcases h with ⟨rfl, _, _, hv, _⟩ | ⟨g, off, cap, hv, hg, _⟩
  · cases hv; exact absurd rfl hn
  · cases hv; exact hg
theorem make_ints {w : World} {B : Nat} {ops : Array Oper} {rest : List Oper} {o : Oper} {a : Act} {R : Exit → Act → World → Prop} (hgd : o.guard = none) (l c : Operand)
    (ho : o.op = .makeSlice 26 l c) (n : Nat) (L : Int) (hl : a.eval l = .int .i64 L) (hc : a.eval c = .int .i64 L) (hL : L = (n : Int)) (hn : n < 1099511627776) (hB : B ≤ w.heap.size)
    (h : ∀ w', Own w' B (.slice (some ⟨w.heap.size, 0, none⟩) n n) (List.replicate n 0) → Q w w' → w.heap.size < w'.heap.size → wpList Tryz.prog ops R rest (a.put o.dst (.slice (some ⟨w.heap.size, 0, none⟩) n n)) w') :
    wpList Tryz.prog ops R (o :: rest) a w := by
  obtain ⟨i0, hi, hz0, hz1, hz2⟩ := info_parts infoInt
  refine wpList_make_full w hgd l c _ ho B 3 i0 (.int .i64 0) 1 Tryz.underlying26 hi hz0 hz1 .i64 .i64 L L n hl hc hL hL (by rw [hz2]; omega) (by unfold maxLen; omega) hB ?_
  intro w' hown hg
  have hown2 : Own w' B (.slice (some ⟨w.heap.size, 0, none⟩) n n) (List.replicate n 0) := by
    unfold Own
    rw [List.length_replicate, List.map_replicate]
    have e : (madeCells (Value.cells (.int .i64 0)) (n * 1)).toList = List.replicate n (Value.int .i64 0) := by
      rw [Nat.mul_one]; exact toList_madeCells_one _ _
    rw [e] at hown
    exact hown
  refine h w' hown2 ((Q.refl w).grown hg (fun k hk => by cases hk)) ?_
  rcases hown.2 with ⟨h1, _⟩ | ⟨g, cap, cur, hv, _, hh, _⟩
  · cases h1
  · cases hv
    exact (Array.getElem?_eq_some_iff.1 hh).1
theorem Lst.drop {w : World} {g off n c k : Nat} {zs : List Int} (h : Lst w (.slice (some ⟨g, off, none⟩) n c) zs) (hn : zs.length = n) (hk : k < n) : Lst w (.slice (some ⟨g, off + k, none⟩) (n - k) (c - k)) (zs.drop k) := by
  rcases h with ⟨rfl, _⟩ | ⟨g', off', cap, hv, hg, h1, h2, hc⟩
  · simp at hn; omega
  · cases hv
    have hl : (zs.drop k).length = zs.length - k := by simp
    refine .inr ⟨g, off + k, c - k, by rw [hl], hg, by omega, by unfold maxLen at *; omega, fun i hi => ?_⟩
    rw [hl] at hi
    rw [Nat.add_assoc, hc (k + i) (by omega), List.getD_eq_getElem?_getD, List.getD_eq_getElem?_getD, List.getElem?_drop]
structure Sl where
  a : Option Addr
  n : Nat
  c : Nat
  zs : List Int
def Sl.v (s : Sl) : Value := .slice s.a s.n s.c
theorem Sl.one (s : Sl) : (Sl.v s).oneCell' = true := rfl
def Sl.ok (w : World) (s : Sl) : Prop := Lst w s.v s.zs ∧ s.zs.length = s.n
theorem Sl.ok.q {w w' : World} {s : Sl} (h : s.ok w) (hq : Q w w') : s.ok w' := ⟨h.1.q hq, h.2⟩
theorem Lst.sl {w : World} {v : Value} {zs : List Int} (h : Lst w v zs) : ∃ s : Sl, v = s.v ∧ s.zs = zs ∧ s.ok w := by
  obtain ⟨a, c, rfl⟩ := h.shape
  exact ⟨⟨a, zs.length, c, zs⟩, rfl, rfl, h, rfl⟩
def LL (w : World) (v : Value) (ls : List Sl) : Prop := GLst Sl.v w v ls ∧ ∀ s ∈ ls, s.ok w
theorem LL.q {w w' : World} {v : Value} {ls : List Sl} (h : LL w v ls) (hq : Q w w') : LL w' v ls := ⟨h.1.q hq, fun s hs => (h.2 s hs).q hq⟩
def LO (w : World) (B : Nat) (v : Value) (ls : List Sl) : Prop := GOwn 26 Sl.v w B v ls ∧ ∀ s ∈ ls, s.ok w
theorem LO.q {w w' : World} {B : Nat} {v : Value} {ls : List Sl} (h : LO w B v ls) (hq : Q w w') : LO w' B v ls := ⟨h.1.q hq, fun s hs => (h.2 s hs).q hq⟩
theorem LO.ll {w : World} {B : Nat} {v : Value} {ls : List Sl} (h : LO w B v ls) : LL w v ls := ⟨h.1.lst, h.2⟩
theorem Lst.rest {w : World} {a : Option Addr} {n c z : Nat} {zs : List Int} (h : Lst w (.slice a n c) zs) (hn : zs.length = n) (hz : z ≤ n) :
    (∃ g off, a = some ⟨g, off, none⟩ ∧ z < n ∧ n ≤ c ∧ c ≤ 9223372036854775807 ∧ Lst w (.slice (some ⟨g, off + z, none⟩) (n - z) (c - z)) (zs.drop z)) ∨
    (z = n ∧ c = n ∧ zs.drop z = []) ∨ (∃ ad, a = some ad ∧ z = n ∧ n < c ∧ c ≤ 9223372036854775807 ∧ zs.drop z = []) := by
  by_cases hlt : z < n
  · obtain ⟨g, off, cap, hv, hg, h1, h2, _⟩ := h.cellOf hn hlt
    cases hv
    exact .inl ⟨g, off, rfl, hlt, h1, by unfold maxLen at h2; omega, h.drop hn hlt⟩
  · have he : zs.drop z = [] := List.drop_eq_nil_of_le (by omega)
    have hc := h.form0 hn
    obtain ⟨_, _, hv, h1, h2⟩ := hc
    cases hv
    unfold maxLen at h2
    by_cases hcn : c = n
    · exact .inr (.inl ⟨by omega, hcn, he⟩)
    · refine .inr (.inr ?_)
      cases a with
      | some ad => exact ⟨ad, rfl, by omega, by omega, by omega, he⟩
      | none =>
        rcases h with ⟨rfl, _, _, hv2, _, hn2⟩ | ⟨_, _, _, hv2, _⟩
        · cases hv2
          have := hn2 rfl
          omega
        · cases hv2
end Go.Proofs.YtagpofhencpliaaGreatDoor
namespace Go.Proofs.YtagpofhencpliaaGreatDoor
open Go.RowKit
attribute [local go_sem ↓] Go.wp_at_zero Go.wp_at_succ
namespace Gr
set_option maxHeartbeats 800000 in
theorem sames_any (va vb : Value) (xs ys : List ByteArray) (w : World) (ha : SLst w va xs) (hb : SLst w vb ys) (hx : xs.length < 1099511627776) (hy : ys.length < 1099511627776) :
    Calls Tryz.prog 13 #[va, vb] w fun e w' => e = .returned (.bool (decide (xs = ys))) ∧ Q w w' := by
  by_cases hl : xs.length = ys.length
  · by_cases h0 : xs.length = 0
    · have hx0 : xs = [] := List.eq_nil_of_length_eq_zero h0
      have hy0 : ys = [] := List.eq_nil_of_length_eq_zero (by omega)
      subst hx0; subst hy0
      obtain ⟨a, c, rfl⟩ := ha.shape
      obtain ⟨b, d, rfl⟩ := hb.shape
      clear ha hb hl h0 hx hy
      go_enter Tryz.func13, Tryz.ntmps13
      go_wp2
      refine wp_loop_rounds 1 ?_
      rw [rounds_succ]
      go_wp2
      go_ret
      exact ⟨rfl, Q.refl _⟩
    · rcases ha with ⟨rfl, _⟩ | ⟨g, off, cap, rfl, hg, _, _, hca⟩
      · exact absurd rfl h0
      rcases hb with ⟨rfl, _⟩ | ⟨g2, off2, cap2, rfl, hg2, _, _, hcb⟩
      · exact absurd hl h0
      have HL := Lib.hid hl
      have hle : ((xs.length : Int) == (ys.length : Int)) = true := by rw [hl]; simp
      have hne : ((xs.length : Int) != (ys.length : Int)) = false := by rw [hl]; simp
      clear hl h0
      go_enter Tryz.func13, Tryz.ntmps13
      go_wp2
      go_loopw [5] (fun i wr => ∃ k : Nat, i = .int .i64 k ∧ k ≤ xs.length ∧ Q w wr ∧ xs.take k = ys.take k) (fun i _ => xs.length - (intOf i).toNat)
      case atStart => exact ⟨0, rfl, by omega, Q.refl _, by simp⟩
      case round =>
        obtain ⟨k, rfl, hk, hq, he⟩ := hrel
        have HE := Lib.hid he
        clear he
        by_cases hlt : k < xs.length
        · have hly : k < ys.length := by rw [← HL.out]; exact hlt
          have c1 := (World.cell?_of_block (w := w) (a := ⟨g, off + k, none⟩) (hq.block hg)).trans (hca k _ (List.getElem?_eq_getElem hlt))
          have c2 := (World.cell?_of_block (w := w) (a := ⟨g2, off2 + k, none⟩) (hq.block hg2)).trans (hcb k _ (List.getElem?_eq_getElem hly))
          have hky : (k : Int) < (ys.length : Int) := by omega
          have hkx : (k : Int) < (xs.length : Int) := by omega
          have hsx := List.take_succ_eq_append_getElem hlt
          have hsy := List.take_succ_eq_append_getElem hly
          have hdif : xs[k] ≠ ys[k] → xs ≠ ys := by
            intro h e
            apply h
            subst e; rfl
          generalize xs[k] = p at c1 hsx hdif
          generalize ys[k] = q at c2 hsy hdif
          have HSX := Lib.hid hsx
          have HSY := Lib.hid hsy
          have HD := Lib.hid hdif
          clear hsx hsy hdif
          by_cases hpq : p = q
          · subst hpq
            go_wp2_with fail
            go_quiet (fail)
            go_wp2_with fail
            exact ⟨⟨k + 1, by go_num, by omega, hq.drewN _, by rw [HSX.out, HSY.out, HE.out]⟩, by simp [intOf]; omega⟩
          · have HF : Hid (decide (xs = ys) = false) := Lib.hid (decide_eq_false (HD.out hpq))
            have ht := str_ne hpq
            clear hpq
            go_wp2_with fail
            go_quiet (fail)
            go_wp2_with fail
            go_ret
            rw [HF.out]
            exact ⟨rfl, hq.drewN _⟩
        · have HF : Hid (decide (xs = ys) = true) := Lib.hid (decide_eq_true (by
            have h1 := HE.out; have h2 := HL.out
            rw [List.take_of_length_le (by omega), List.take_of_length_le (by omega)] at h1
            exact h1))
          go_wp2_with fail
          go_ret
          rw [HF.out]
          exact ⟨rfl, hq⟩
  · have hne : ((xs.length : Int) == (ys.length : Int)) = false := by rw [beq_eq_false_iff_ne]; omega
    have hne2 : ((xs.length : Int) != (ys.length : Int)) = true := by rw [bne_iff_ne]; omega
    have HF : Hid (decide (xs = ys) = false) := Lib.hid (decide_eq_false (fun h => hl (by rw [h])))
    obtain ⟨a, c, rfl⟩ := ha.shape
    obtain ⟨b, d, rfl⟩ := hb.shape
    clear ha hb hl
    go_enter Tryz.func13, Tryz.ntmps13
    go_wp2
    go_ret
    rw [HF.out]
    exact ⟨rfl, Q.refl _⟩
end Gr
end Go.Proofs.YtagpofhencpliaaGreatDoor
namespace Go.Proofs.YtagpofhencpliaaGreatDoor
open Go.RowKit
namespace D3
abbrev E := Bool × Value × Int
def z0 : E := (false, .slice none 0 0, 0)
def flat (l : List E) : List Value := l.flatMap fun p => [.bool p.1, p.2.1, .int .i64 p.2.2]
theorem flat_cons (p : E) (l : List E) : flat (p :: l) = .bool p.1 :: p.2.1 :: .int .i64 p.2.2 :: flat l := by simp [flat]
theorem flat_app (a b : List E) : flat (a ++ b) = flat a ++ flat b := by simp [flat]
theorem flat_get (l : List E) (i : Nat) (h : i < l.length) : (flat l)[i * 3]? = some (.bool (l.getD i z0).1) ∧ (flat l)[i * 3 + 1]? = some (l.getD i z0).2.1 ∧ (flat l)[i * 3 + 2]? = some (.int .i64 (l.getD i z0).2.2) := by
  induction l generalizing i with
  | nil => simp at h
  | cons p l ih =>
    cases i with
    | zero => rw [flat_cons]; simp
    | succ i =>
      have := ih i (by simpa using h)
      rw [flat_cons, show (i + 1) * 3 = i * 3 + 1 + 1 + 1 from by omega]
      simpa using this
def OwnE (T : TypeId) (w : World) (B : Nat) (v : Value) (l : List E) : Prop := w.ownsRow B T 3 v l.length (flat l)
theorem OwnE.nil (T : TypeId) (w : World) (B : Nat) : OwnE T w B (.slice none 0 0) [] := World.ownsRow_nil w B T 3
theorem OwnE.mono {T : TypeId} {w : World} {B B' : Nat} {v : Value} {l : List E} (h : OwnE T w B v l) (hB : B' ≤ B) : OwnE T w B' v l := by
  obtain ⟨h1, h2⟩ := h
  refine ⟨h1, ?_⟩
  rcases h2 with h2 | ⟨g, cap, cur, hv, hg, r⟩
  · exact .inl h2
  · exact .inr ⟨g, cap, cur, hv, by omega, r⟩
theorem OwnE.same {T : TypeId} {w w' : World} {B : Nat} {v : Value} {l : List E} (h : OwnE T w B v l) (hs : ∀ g, v.ownBlock = some g → w'.heap[g]? = w.heap[g]?) : OwnE T w' B v l := by
  obtain ⟨h1, h2⟩ := h
  refine ⟨h1, ?_⟩
  rcases h2 with h2 | ⟨g, cap, cur, hv, hg, hh, r⟩
  · exact .inl h2
  · exact .inr ⟨g, cap, cur, hv, hg, by rw [hs g (by rw [hv]; rfl)]; exact hh, r⟩
theorem OwnE.lt {T : TypeId} {w : World} {B : Nat} {v : Value} {l : List E} (h : OwnE T w B v l) : ∀ g, v.ownBlock = some g → B ≤ g ∧ g < w.heap.size := World.ownsRow.lt h
theorem OwnE.q {T : TypeId} {w w' : World} {B : Nat} {v : Value} {l : List E} (h : OwnE T w B v l) (hq : Q w w') : OwnE T w' B v l := h.same fun g hg => hq.block (h.lt g hg).2
theorem OwnE.form {T : TypeId} {w : World} {B n : Nat} {v : Value} {l : List E} (h : OwnE T w B v l) (hn : l.length = n) (h0 : 0 < n) :
    ∃ g cap, v = .slice (some ⟨g, 0, none⟩) n cap ∧ B ≤ g ∧ g < w.heap.size ∧ n ≤ cap ∧ cap ≤ maxLen ∧ ∀ i, i < n → w.cell? ⟨g, i * 3, none⟩ = some (.bool (l.getD i z0).1) ∧ w.cell? ⟨g, i * 3 + 1, none⟩ = some (l.getD i z0).2.1 ∧ w.cell? ⟨g, i * 3 + 2, none⟩ = some (.int .i64 (l.getD i z0).2.2) := by
  subst hn
  rcases h.2 with ⟨hv, hn⟩ | ⟨g, cap, cur, hv, hg, hh, hnc, hcm, hcs, ht⟩
  · omega
  · have key : ∀ j x, j < l.length * 3 → (flat l)[j]? = some x → w.cell? ⟨g, j, none⟩ = some x := by
      intro j x hj hx
      rw [cell_of_row w g j cur T (0, 0) hh]
      have h1 := congrArg (fun x => x[j]?) ht
      rw [List.getElem?_take, if_pos hj, hx] at h1
      rw [← Array.getElem?_toList, h1]
    refine ⟨g, cap, hv, hg, (Array.getElem?_eq_some_iff.1 hh).1, hnc, hcm, fun i hi => ?_⟩
    obtain ⟨f1, f2, f3⟩ := flat_get l i hi
    exact ⟨key _ _ (by omega) f1, key _ _ (by omega) f2, key _ _ (by omega) f3⟩
theorem OwnE.shape {T : TypeId} {w : World} {B : Nat} {v : Value} {l : List E} (h : OwnE T w B v l) : ∃ a c, v = .slice a l.length c ∧ l.length ≤ c ∧ c ≤ maxLen := by
  rcases h.2 with ⟨hv, hn⟩ | ⟨g, cap, cur, hv, _, _, h1, h2, _⟩
  · rw [hn]; exact ⟨none, 0, hv, Nat.le_refl _, by unfold maxLen; omega⟩
  · exact ⟨_, _, hv, h1, h2⟩
structure El (T ST : TypeId) : Prop where
  info : (Tryz.prog.info? T).map (fun i => (i.zero, i.size, i.bytes)) = some (some (.agg #[.bool false, .slice none 0 0, .int .i64 0]), 3, 40)
  under : Tryz.prog.underlying ST = some (.slice T)
theorem push {T ST : TypeId} (he : El T ST) {w : World} {B : Nat} {v : Value} {l : List E} (hown : OwnE T w B v l) {ops : Array Oper} {rest : List Oper} {o : Oper} {a : Act} {R : Exit → Act → World → Prop} (hgd : o.guard = none) (s x : Operand)
    (ho : o.op = .call { callee := .builtin .append, args := #[s, x], argTypes := #[ST, ST] })
    (p : Bool) (t : Value) (k : Int) (ht : t.oneCell' = true) (hs : a.eval s = v) (hx : a.eval x = .slice (some ⟨w.heap.size, 0, none⟩) 1 1) (hlen : l.length < 1073741824) (hB : B ≤ w.heap.size)
    (h : ∀ v' w', OwnE T w' B v' (l ++ [(p, t, k)]) → w.grownBy w' v.ownBlock → (v'.ownBlock = v.ownBlock ∨ v'.ownBlock = some (w.heap.size + 1)) → wpList Tryz.prog ops R rest (a.put o.dst v') w') :
    wpList Tryz.prog ops R (o :: rest) a (w.alloc (.cells #[.bool p, t, .int .i64 k] T)) := by
  obtain ⟨i0, hi, hz0, hz1, hz2⟩ := info_parts he.info
  refine wpList_append_own_at _ hgd s x ST ho B T i0 (.agg #[.bool false, .slice none 0 0, .int .i64 0]) 3 40 he.under hi hz0 hz1 hz2 rfl (by decide) v l.length _ hs (World.ownsRow.alloc hown _)
    ⟨w.heap.size, 0, none⟩ 1 1 [.bool p, t, .int .i64 k] hx rfl ?_ ?_ ?_ ?_ ?_ ?_
  · intro j u hj
    match j, hj with
    | 0, hj => simp at hj; subst hj; show World.cell? _ ⟨w.heap.size, 0 + 0, none⟩ = _; rw [World.cell?_alloc_at _ _ _ _ rfl]; rfl
    | 1, hj => simp at hj; subst hj; show World.cell? _ ⟨w.heap.size, 0 + 1, none⟩ = _; rw [World.cell?_alloc_at _ _ _ _ rfl]; rfl
    | 2, hj => simp at hj; subst hj; show World.cell? _ ⟨w.heap.size, 0 + 2, none⟩ = _; rw [World.cell?_alloc_at _ _ _ _ rfl]; rfl
  · intro u hu; simp at hu; rcases hu with rfl | rfl | rfl
    · rfl
    · exact ht
    · rfl
  · unfold maxLen; omega
  · omega
  · simp; omega
  · intro v' w' hown' hg _ hat
    refine h v' w' ?_ ?_ ?_
    · unfold OwnE
      rw [List.length_append, flat_app]
      exact hown'
    · exact (World.grownBy_alloc w _ _).trans hg
    · simpa using hat
theorem el : El 28 74 := ⟨by kernel_rfl, by kernel_rfl⟩
end D3
end Go.Proofs.YtagpofhencpliaaGreatDoor
namespace Go.Proofs.YtagpofhencpliaaGreatDoor
open Go.ChangeShapes Go.WideShapes Go.RowKit
def laidL : List (String × DataW Unit) := [("errors.errorType", Rows.laid_errors_errorType)]
theorem laidNone : (laidL.filter fun x => x.2.handleName?.isNone) = [] := by kernel_rfl
theorem laidSome : (laidL.filter fun x => x.2.handleName?.isSome) = [("errors.errorType", Rows.laid_errors_errorType)] := by kernel_rfl
theorem etNo : Tryz.prog.globalNamed "errors.errorType" = some 0 := by kernel_rfl
theorem rtNo : (Tryz.prog.cutTypes.find? (·.1 == "internal/reflectlite.rtype")).map (·.2) = some 125 := by kernel_rfl
theorem oneRow : ((List.range (280 - 100)).filter fun t => Tryz.prog.rowNamed t [101, 114, 114, 111, 114]) = [41] := by kernel_rfl
theorem typesNo : Tryz.prog.types.size = 280 - 100 := by kernel_rfl
theorem env_of_laid {W : World} (h : laidMetH Tryz.prog laidL W) : Fe.Handle W := by
  unfold laidMetH at h
  rw [laidSome, laidNone] at h
  obtain ⟨_, hh⟩ : laidMet Tryz.prog _ W ∧ handlesMet Tryz.prog [("errors.errorType", Rows.laid_errors_errorType)] W := h
  obtain ⟨name, u, ty, e1, e2, e3, e4, e5⟩ := hh _ (List.mem_singleton.2 rfl)
  have en : name = [101, 114, 114, 111, 114] := (Option.some.inj e1).symm
  subst en
  obtain rfl := Option.some.inj (rtNo.symm.trans e2)
  have hm : ty ∈ (List.range (280 - 100)).filter fun t => Tryz.prog.rowNamed t [101, 114, 114, 111, 114] := List.mem_filter.2 ⟨List.mem_range.2 (by rw [← typesNo]; exact e3), e4⟩
  rw [oneRow] at hm
  obtain rfl := List.mem_singleton.1 hm
  have hh : typeHandle Tryz.prog 41 = .pointer (some ⟨1, 41, none⟩) := by kernel_rfl
  rw [hh] at e5
  unfold Fe.Handle
  simpa using World.var?_cell etNo e5 0
noncomputable def laidWorld (os : Os) : World :=
  let w0 := World.holding Tryz.prog os ⟨#[], #[], []⟩
  let put := fun (h : Array Obj) (g : Nat) (cs : Array Value) => h.modify g fun
      | .cells _ t frozen => .cells cs t frozen
      | o => o
  { w0 with heap := put w0.heap 0 #[.iface 125 (.agg #[.pointer (some ⟨1, 41, none⟩)])] }
theorem laidWorld_met (os : Os) (args : Array Value) : laidMetH Tryz.prog laidL ((laidWorld os).forCall (fun _ _ => 0) ⟨#[], args, []⟩).memory := by
  refine laidMetH_of_parts ?_ (by kernel_rfl)
  rw [laidNone]
  exact laidMet_of_run' 8 (by kernel_rfl) (by kernel_rfl)
end Go.Proofs.YtagpofhencpliaaGreatDoor
namespace Go.Proofs.YtagpofhencpliaaGreatDoor
open Go.RowKit Um
namespace Ur
theorem ret_int {k : IntKind} {a b : Int} (h : a = b) : Ending.returned (.int k a) = .returned (.int k b) := by rw [h]
set_option maxHeartbeats 400000 in
theorem around_any (n m : Int) (w : World) (h0 : -9223372036854775808 ≤ n) (h1 : n ≤ 9223372036854775807) (hm : 1 ≤ m) (hm2 : m ≤ 9223372036854775807) :
    Calls Tryz.prog 7 #[.int .i64 n, .int .i64 m] w fun e w' => e = .returned (.int .i64 (around n m)) ∧ w = w' := by
  by_cases hn : n < 0
  · have HA : Hid (around n m = (-(n + 1)) % m) := Lib.hid (by unfold around; rw [if_pos hn])
    go_enter Tryz.func7, Tryz.ntmps7
    go_wp2
    go_ret
    rw [HA.out]
    exact ⟨ret_int (by rw [← Int.tmod_eq_emod_of_nonneg (by omega), Int.neg_tmod]), rfl⟩
  · have HA : Hid (around n m = n % m) := Lib.hid (by unfold around; rw [if_neg hn])
    go_enter Tryz.func7, Tryz.ntmps7
    go_wp2
    go_ret
    rw [HA.out]
    exact ⟨rfl, rfl⟩
end Ur
end Go.Proofs.YtagpofhencpliaaGreatDoor
