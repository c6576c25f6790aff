/- The program's config: what stands while its New works. (and more) -/
import Derived.Test.YtagpofhencpliaaGreatDoorR00
import Derived.Test.YtagpofhencpliaaGreatDoorR04
import Derived.Test.YtagpofhencpliaaGreatDoorR22
import Derived.Test.YtagpofhencpliaaGreatDoorR21
import Derived.Test.YtagpofhencpliaaGreatDoorR28
import Derived.Test.YtagpofhencpliaaGreatDoorR14
import Derived.Test.YtagpofhencpliaaGreatDoorR02
import Derived.Test.YtagpofhencpliaaGreatDoorR10
import Derived.Test.YtagpofhencpliaaGreatDoorR13
import Derived.Test.YtagpofhencpliaaGreatDoorR34
import Derived.Test.YtagpofhencpliaaGreatDoorR03
import Derived.Test.YtagpofhencpliaaGreatDoorRows
import Derived.Test.YtagpofhencpliaaGreatDoorR08
import Derived.Test.YtagpofhencpliaaGreatDoorR26
import Derived.Test.YtagpofhencpliaaGreatDoorR15
import Derived.Test.YtagpofhencpliaaGreatDoorR20
import Derived.Test.YtagpofhencpliaaGreatDoorR27
import Derived.Deep.Cut
import Derived.Deep.RegionHeld
import Derived.Deep.QuietTactic
import Derived.BigQuiet
set_option linter.unusedVariables false
set_option linter.unusedSimpArgs false
namespace Go.Proofs.YtagpofhencpliaaGreatDoor
open Go.RowKit
namespace Kp
open Er (dv LF LF.of LF.nil LF.mono LF.q LF.put LF.shape LF.lst)
open Kr (SB rul)
def ob (n a b : Int) : Bool := !(decide (a ≤ n) && decide (n ≤ b))
abbrev Lk := ByteArray × Int × Bool
def lk0 : Lk := (ByteArray.empty, 0, false)
def flat (l : List Lk) : List Value := l.flatMap fun p => [.string p.1, .int .i64 p.2.1, .bool p.2.2]
theorem flat_cons (p : Lk) (l : List Lk) : flat (p :: l) = .string p.1 :: .int .i64 p.2.1 :: .bool p.2.2 :: flat l := by simp [flat]
theorem flat_get (l : List Lk) (i : Nat) (h : i < l.length) : (flat l)[i * 3]? = some (.string (l.getD i lk0).1) ∧ (flat l)[i * 3 + 1]? = some (.int .i64 (l.getD i lk0).2.1) ∧ (flat l)[i * 3 + 2]? = some (.bool (l.getD i lk0).2.2) := by
  induction l generalizing i with
  | nil => simp at h
  | cons p l ih =>
    cases i with
    | zero => rw [flat_cons]; simp
    | succ i =>
      have := ih i (by simpa using h)
      rw [flat_cons, show (i + 1) * 3 = i * 3 + 1 + 1 + 1 from by omega]
      simpa using this
def rws (i0 i1 i2 i3 i4 i6 : Int) (md : Bool) (r : Nat → Int) (ft : Nat → Bool) (c2 c01 : Int) : List Lk :=
  [(⟨#[105, 110, 116, 99, 97, 112]⟩, 3, ob i0 1 64), (⟨#[102, 114, 97, 99, 99, 97, 112]⟩, 3, ob i1 0 64), (⟨#[115, 99, 97, 108, 101]⟩, 3, ob i2 0 i1), (⟨#[109, 105, 110, 105, 110, 116]⟩, 3, ob i3 0 i0), (⟨#[109, 105, 110, 102, 114, 97, 99]⟩, 3, ob i4 0 i2), (⟨#[109, 111, 100, 101]⟩, 7, md), (⟨#[104, 105, 115, 116, 111, 114, 121]⟩, 3, ob i6 1 1024), (⟨#[109, 105, 110]⟩, (r 0), r 0 != 0), (⟨#[109, 105, 110]⟩, 4, !(ft 0)), (⟨#[109, 97, 120]⟩, (r 1), r 1 != 0), (⟨#[109, 97, 120]⟩, 4, !(ft 1)), (⟨#[115, 116, 101, 112]⟩, (r 2), r 2 != 0), (⟨#[115, 116, 101, 112]⟩, 4, !(ft 2)), (⟨#[115, 116, 101, 112]⟩, 3, decide (c2 ≤ 0)), (⟨#[109, 97, 120]⟩, 3, decide (0 < c01))]
theorem rws_code (i0 i1 i2 i3 i4 i6 : Int) (md : Bool) (r : Nat → Int) (ft : Nat → Bool) (c2 c01 : Int) (i : Nat) (hi : i < 15) (h : ((rws i0 i1 i2 i3 i4 i6 md r ft c2 c01).getD i lk0).2.2 = true) : ((rws i0 i1 i2 i3 i4 i6 md r ft c2 c01).getD i lk0).2.1 ≠ 0 := by
  rcases (show i = 0 ∨ i = 1 ∨ i = 2 ∨ i = 3 ∨ i = 4 ∨ i = 5 ∨ i = 6 ∨ i = 7 ∨ i = 8 ∨ i = 9 ∨ i = 10 ∨ i = 11 ∨ i = 12 ∨ i = 13 ∨ i = 14 by omega) with rfl | rfl | rfl | rfl | rfl | rfl | rfl | rfl | rfl | rfl | rfl | rfl | rfl | rfl | rfl
  all_goals first
    | exact (show (3 : Int) ≠ 0 by decide)
    | exact (show (4 : Int) ≠ 0 by decide)
    | exact (show (7 : Int) ≠ 0 by decide)
    | exact (bne_iff_ne.1 (show (r 0 != 0) = true from h) : r 0 ≠ 0)
    | exact (bne_iff_ne.1 (show (r 1 != 0) = true from h) : r 1 ≠ 0)
    | exact (bne_iff_ne.1 (show (r 2 != 0) = true from h) : r 2 ≠ 0)
theorem SB.q {w Y u u' : World} {b : Nat} (h : SB w Y b u) (hq : Q u u') : SB w Y b u' :=
  ⟨h.1.trans hq, fun k hk hl => (hq.block (Nat.lt_of_lt_of_le hl h.2.2)).trans (h.2.1 k hk hl), Nat.le_trans h.2.2 hq.le⟩
theorem SB.rf {w u : World} (b : Nat) (h : Q w u) : SB w u b u := ⟨h, fun _ _ _ => rfl, Nat.le_refl _⟩
theorem SB.lst {w Y u : World} {b : Nat} {v : Value} {xs : List Int} (h : SB w Y b u) (hl : Lst Y v xs) (hf : ∀ a n c, v = .slice (some a) n c → n ≠ 0 → a.block ≠ b) : Lst u v xs :=
  Kr.Lst_past hl h.2.2 fun a n c e hn => h.2.1 _ (hf a n c e hn) (hl.old a n c e hn)
theorem LF_bl {w : World} {B b : Nat} {v : Value} {xs : List Int} (h : LF w B v xs) (hb : b < B) : ∀ a n c, v = .slice (some a) n c → n ≠ 0 → a.block ≠ b := fun a n c e hn => by
  have := Kr.LF_fresh h a n c e hn
  omega
theorem EV_one {w : World} {c : Int} {s : ByteArray} {x : Value} (h : Fe.EV w c [s] x) : ∃ g, x = .iface 83 (.pointer (some ⟨g, 0, none⟩)) ∧ w.heap[g]? = some (.cells #[.string s, .iface 49 (.int .i64 c)] 86 (0, 0)) := by
  obtain ⟨g, u, hx, hg, _, hu⟩ := h
  obtain rfl : u = _ := hu
  exact ⟨g, hx, hg⟩
theorem EV_sb {w Y u : World} {b : Nat} {c : Int} {s : ByteArray} {x : Value} {l : List Value} {ty : TypeId} (h : SB w Y b u) (he : Fe.EV Y c [s] x) (hb : Bk Y b ty l) (hne : ty ≠ 86) : Fe.EV u c [s] x := by
  obtain ⟨g, v, hx, hg, hr, hv⟩ := he
  refine ⟨g, v, hx, (h.2.1 g ?_ (Array.getElem?_eq_some_iff.1 hg).1).trans hg, hr, hv⟩
  rintro rfl
  have : (some (Obj.cells l.toArray ty (0, 0))) = some (.cells #[.string s, v] 86 (0, 0)) := hb.symm.trans hg
  injection (Option.some.inj this) with _ h2 _
  exact hne h2
@[reducible] def rul0 : Value := .agg #[.bool false, .slice none 0 0, .int .i64 0, .bool false, .slice none 0 0, .int .i64 0, .bool false, .slice none 0 0, .int .i64 0, .bool false, .int .i64 0, .int .i64 0, .int .i64 0, .int .i64 0, .int .i64 0, .int .i64 0, .int .i64 0]
def Ru (w' : World) (v : Value) (g : Nat → Bool) (L : Nat → List Int) (s : Nat → Nat) (sg : Bool) (i0 i1 i2 i3 i4 i5 i6 : Int) : Prop :=
  ∃ p0 p1 p2, Kr.Tri w' (g 0) (L 0) (s 0) p0 ∧ Kr.Tri w' (g 1) (L 1) (s 1) p1 ∧ Kr.Tri w' (g 2) (L 2) (s 2) p2 ∧ v = rul p0.1 p1.1 p2.1 sg p0.2.1 p1.2.1 p2.2.1 p0.2.2 p1.2.2 p2.2.2 i0 i1 i2 i3 i4 i5 i6
def Outc (l : List Lk) (w' : World) (e : Ending) (g : Nat → Bool) (L : Nat → List Int) (s : Nat → Nat) (sg : Bool) (i0 i1 i2 i3 i4 i5 i6 : Int) : Prop :=
  (∃ k, k < l.length ∧ (∀ j, j < k → (l.getD j lk0).2.2 = false) ∧ (l.getD k lk0).2.2 = true ∧ ∃ x, Fe.EV w' (l.getD k lk0).2.1 [(l.getD k lk0).1] x ∧ e = .returned (.tuple #[rul0, x])) ∨
  ((∀ j, j < l.length → (l.getD j lk0).2.2 = false) ∧ ∃ v, Ru w' v g L s sg i0 i1 i2 i3 i4 i5 i6 ∧ e = .returned (.tuple #[v, .nilIface]))
end Kp
end Go.Proofs.YtagpofhencpliaaGreatDoor
namespace Go.Proofs.YtagpofhencpliaaGreatDoor
open Go.RowKit
namespace Kp
open Er (dv LF LF.of LF.nil LF.mono LF.q LF.put LF.shape LF.lst)
set_option maxRecDepth 100000 in
set_option maxHeartbeats 4000000 in
theorem number_any (t : ByteArray) (g : Bool) (L : List Int) (s : Nat) (r : Int) (w : World) (hm : t.size ≤ 1000000) (hp : Dm.prs t.data.toList = (g, L, s, r)) (hl : L.length < 1900) (hd : Dm.okD L) (hs : s ≤ 1000) :
    Calls Tryz.prog 19 #[.string t] w fun e w' => ∃ a c, e = .returned (.tuple #[.agg #[.bool (Dm.cg g (Dm.num L)), .slice a (Dm.dg (Dm.st (Dm.num L) s).1).length c, .int .i64 ((Dm.st (Dm.num L) s).2 : Nat)], .int .i64 r]) ∧ LF w' w.heap.size (.slice a (Dm.dg (Dm.st (Dm.num L) s).1).length c) (Dm.dg (Dm.st (Dm.num L) s).1) ∧ Q w w' := by
  have HP := Lib.hid (fun u => Ep.parse_any t u hm)
  rw [hp] at HP
  have HT := Lib.hid (fun u v (h : Lst u v L) => ptrim_sh g v s L u h (by omega) hd hs)
  clear hp hl hd hs hm
  generalize Dm.cg g (Dm.num L) = gt at *
  generalize Dm.st (Dm.num L) s = ST at *
  obtain ⟨M, q⟩ := ST
  simp only at HP HT ⊢
  generalize Dm.dg M = Z at *
  obtain ⟨zl, hzl⟩ : ∃ k, k = Z.length := ⟨_, rfl⟩
  rw [← hzl] at HT ⊢
  have HZ := Lib.hid hzl
  clear hzl
  unfold dv at HP
  obtain ⟨z, hz⟩ : ∃ y, y = w.alloc (.cells #[.bool false, .slice none 0 0, .int .i64 0] 36) := ⟨_, rfl⟩
  have hQ1 : Q w z := by rw [hz]; exact (Q.refl w).alloc _
  have hb : Bk z w.heap.size 36 [.bool false, .slice none 0 0, .int .i64 0] := by rw [hz]; exact Bk.new _ _ _
  have HQ1 := Lib.hid hQ1
  have HO := Lib.hid hb
  go_enter Tryz.func19, Tryz.ntmps19
  go_upto_region 1 with fail
  rw [← hz]
  clear hQ1 hb hz
  go_wp2_with fail
  refine (HP.out _).mono ?_
  rintro e w1 ⟨u, rfl, hu, hq1⟩
  obtain ⟨a, c, rfl⟩ := hu.shape
  obtain ⟨n, hn⟩ : ∃ n, n = L.length := ⟨_, rfl⟩
  rw [← hn] at hu ⊢
  clear hn
  obtain ⟨W1, hW1⟩ : ∃ y, y = w1.alloc (.cells #[.bool g, .slice a n c, .int .i64 s] 36) := ⟨_, rfl⟩
  have hqa : Q z W1 := by rw [hW1]; exact hq1.alloc _
  have hbx : Bk W1 w1.heap.size 36 [.bool g, .slice a n c, .int .i64 s] := by rw [hW1]; exact Bk.new _ _ _
  have HU := Lib.hid (hu.q (show Q w1 W1 by rw [hW1]; exact (Q.refl w1).alloc _))
  replace HO := Lib.hid (HO.out.q hqa)
  replace HQ1 := Lib.hid (HQ1.out.trans hqa)
  obtain ⟨bX, hbX⟩ : ∃ b, b = w1.heap.size := ⟨_, rfl⟩
  rw [← hbX] at hbx
  clear hu hq1 hqa
  go_upto_region 2 with fail
  rw [← hW1, ← hbX]
  clear hW1 hbX
  have x0 := hbx.cell 0 rfl
  have x1 := hbx.cell 1 rfl
  have x2 := hbx.cell 2 rfl
  clear hbx
  go_wp2_with fail
  refine (HT.out _ _ HU.out).mono ?_
  rintro e w2 ⟨ta, tc, rfl, ht, hq2⟩
  have HQ2 := Lib.hid (HQ1.out.trans hq2)
  have ho := HO.out.q hq2
  have HL := Lib.hid (show LF w2 (w.heap.size + 1) (.slice ta zl tc) Z from ht.mono (by have := HO.out.lt; omega))
  have p0 := ho.cell 0 rfl
  have p1 := ho.cell 1 rfl
  have p2 := ho.cell 2 rfl
  have f0 := ho.free 0
  have f1 := ho.free 1
  have f2 := ho.free 2
  have HO3 := Lib.hid (show Bk _ w.heap.size 36 [.bool gt, .slice ta zl tc, .int .i64 (q : Nat)] from ((ho.set 0 (.bool gt)).set 1 (.slice ta zl tc)).set 2 (.int .i64 (q : Nat)))
  have HQ3 := Lib.hid (((HQ2.out.setCell (ad := ⟨w.heap.size, 0, none⟩) (Nat.le_refl _) (.bool gt)).setCell (ad := ⟨w.heap.size, 1, none⟩) (Nat.le_refl _) (.slice ta zl tc)).setCell (ad := ⟨w.heap.size, 2, none⟩) (Nat.le_refl _) (.int .i64 (q : Nat)))
  clear ho ht hq2 x0 x1 x2
  go_wp2_with fail
  refine Ep.ret_dv2 (b := gt) (v := .slice ta zl tc) (s := (q : Nat)) rfl rfl rfl HO3.out rfl ⟨_, _, rfl, ?_, HQ3.out⟩
  exact (HL.out.put (Nat.lt_succ_self _) _ _ _).mono (by omega)
set_option maxRecDepth 100000 in
set_option maxHeartbeats 4000000 in
theorem sign_any (g : Bool) (a : Option Addr) (n c : Nat) (s : Nat) (L : List Int) (w : World) (hv : Lst w (.slice a n c) L) (hl : L.length < 10000) (hd : Dm.okD L) (hs : s ≤ 1000) (k : Int) (hk : k = Dm.cmpD g (Dm.num L) s false 0 0) :
    Calls Tryz.prog 23 #[.agg #[.bool g, .slice a n c, .int .i64 s]] w fun e w' => e = .returned (.int .i64 k) ∧ Q w w' := by
  have HC := Lib.hid (fun u (q : Q w u) => Ep.compare_any g false (.slice a n c) (.slice none 0 0) s 0 L [] u (hv.q q) (Lst.nil u none 0 (by unfold maxLen; omega) (fun _ => rfl)) hl (by simp) hd (by intro x hx; cases hx) hs (by omega))
  have h0 : Dm.num [] = 0 := rfl
  rw [h0] at HC
  rw [← hk] at HC
  clear hk hv hl hd hs h0
  unfold dv at HC
  have HQ := Lib.hid (show Q w (w.alloc (.cells #[.bool g, .slice a n c, .int .i64 s] 36)) from (Q.refl w).alloc _)
  go_enter Tryz.func23, Tryz.ntmps23
  go_wp2_with fail
  refine (HC.out _ HQ.out).mono ?_
  rintro e w1 ⟨rfl, hq1⟩
  go_wp2_with fail
  go_ret
  exact ⟨rfl, HQ.out.trans hq1⟩
end Kp
end Go.Proofs.YtagpofhencpliaaGreatDoor
