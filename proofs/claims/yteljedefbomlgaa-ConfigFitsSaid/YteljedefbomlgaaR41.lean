/- The program's config: what stands while its New works. (and more) -/
import Derived.Test.YteljedefbomlgaaR00
import Derived.Test.YteljedefbomlgaaR02
import Derived.Test.YteljedefbomlgaaR27
import Derived.Test.YteljedefbomlgaaR26
import Derived.Test.YteljedefbomlgaaR37
import Derived.Test.YteljedefbomlgaaR39
import Derived.Test.YteljedefbomlgaaR12
import Derived.Test.YteljedefbomlgaaR01
import Derived.Test.YteljedefbomlgaaR08
import Derived.Test.YteljedefbomlgaaR10
import Derived.Test.YteljedefbomlgaaR32
import Derived.Test.YteljedefbomlgaaRows
import Derived.Deep.Cut
import Derived.Deep.RegionHeld
import Derived.Deep.QuietTactic
import Derived.BigQuiet
set_option linter.unusedVariables false
set_option linter.unusedSimpArgs false
namespace Go.Proofs.Yteljedefbomlgaa
open Go.RowKit
namespace Kp
open Er (dv LF LF.of LF.nil LF.mono LF.q LF.put LF.shape LF.lst)
open Kr (SB rul)
def ob (n a b : Int) : Bool := !(decide (a ≤ n) && decide (n ≤ b))
abbrev Lk := ByteArray × Int × Bool
def lk0 : Lk := (ByteArray.empty, 0, false)
def flat (l : List Lk) : List Value := l.flatMap fun p => [.string p.1, .int .i64 p.2.1, .bool p.2.2]
theorem flat_cons (p : Lk) (l : List Lk) : flat (p :: l) = .string p.1 :: .int .i64 p.2.1 :: .bool p.2.2 :: flat l := by simp [flat]
theorem flat_get (l : List Lk) (i : Nat) (h : i < l.length) : (flat l)[i * 3]? = some (.string (l.getD i lk0).1) ∧ (flat l)[i * 3 + 1]? = some (.int .i64 (l.getD i lk0).2.1) ∧ (flat l)[i * 3 + 2]? = some (.bool (l.getD i lk0).2.2) := by
  induction l generalizing i with
  | nil => simp at h
  | cons p l ih =>
    cases i with
    | zero => rw [flat_cons]; simp
    | succ i =>
      have := ih i (by simpa using h)
      rw [flat_cons, show (i + 1) * 3 = i * 3 + 1 + 1 + 1 from by omega]
      simpa using this
def rws (i0 i1 i2 i3 i4 i6 : Int) (md : Bool) (r : Nat → Int) (ft : Nat → Bool) (c2 c01 : Int) : List Lk :=
  [(⟨#[105, 110, 116, 99, 97, 112]⟩, 3, ob i0 1 64), (⟨#[102, 114, 97, 99, 99, 97, 112]⟩, 3, ob i1 0 64), (⟨#[115, 99, 97, 108, 101]⟩, 3, ob i2 0 i1), (⟨#[109, 105, 110, 105, 110, 116]⟩, 3, ob i3 0 i0), (⟨#[109, 105, 110, 102, 114, 97, 99]⟩, 3, ob i4 0 i2), (⟨#[109, 111, 100, 101]⟩, 7, md), (⟨#[104, 105, 115, 116, 111, 114, 121]⟩, 3, ob i6 1 1024), (⟨#[109, 105, 110]⟩, (r 0), r 0 != 0), (⟨#[109, 105, 110]⟩, 4, !(ft 0)), (⟨#[109, 97, 120]⟩, (r 1), r 1 != 0), (⟨#[109, 97, 120]⟩, 4, !(ft 1)), (⟨#[115, 116, 101, 112]⟩, (r 2), r 2 != 0), (⟨#[115, 116, 101, 112]⟩, 4, !(ft 2)), (⟨#[115, 116, 101, 112]⟩, 3, decide (c2 ≤ 0)), (⟨#[109, 97, 120]⟩, 3, decide (0 < c01))]
theorem rws_code (i0 i1 i2 i3 i4 i6 : Int) (md : Bool) (r : Nat → Int) (ft : Nat → Bool) (c2 c01 : Int) (i : Nat) (hi : i < 15) (h : ((rws i0 i1 i2 i3 i4 i6 md r ft c2 c01).getD i lk0).2.2 = true) : ((rws i0 i1 i2 i3 i4 i6 md r ft c2 c01).getD i lk0).2.1 ≠ 0 := by
  rcases (show i = 0 ∨ i = 1 ∨ i = 2 ∨ i = 3 ∨ i = 4 ∨ i = 5 ∨ i = 6 ∨ i = 7 ∨ i = 8 ∨ i = 9 ∨ i = 10 ∨ i = 11 ∨ i = 12 ∨ i = 13 ∨ i = 14 by omega) with rfl | rfl | rfl | rfl | rfl | rfl | rfl | rfl | rfl | rfl | rfl | rfl | rfl | rfl | rfl
  all_goals first
    | exact (show (3 : Int) ≠ 0 by decide)
    | exact (show (4 : Int) ≠ 0 by decide)
    | exact (show (7 : Int) ≠ 0 by decide)
    | exact (bne_iff_ne.1 (show (r 0 != 0) = true from h) : r 0 ≠ 0)
    | exact (bne_iff_ne.1 (show (r 1 != 0) = true from h) : r 1 ≠ 0)
    | exact (bne_iff_ne.1 (show (r 2 != 0) = true from h) : r 2 ≠ 0)
theorem SB.q {w Y u u' : World} {b : Nat} (h : SB w Y b u) (hq : Q u u') : SB w Y b u' :=
  ⟨h.1.trans hq, fun k hk hl => (hq.block (Nat.lt_of_lt_of_le hl h.2.2)).trans (h.2.1 k hk hl), Nat.le_trans h.2.2 hq.le⟩
theorem SB.rf {w u : World} (b : Nat) (h : Q w u) : SB w u b u := ⟨h, fun _ _ _ => rfl, Nat.le_refl _⟩
theorem SB.lst {w Y u : World} {b : Nat} {v : Value} {xs : List Int} (h : SB w Y b u) (hl : Lst Y v xs) (hf : ∀ a n c, v = .slice (some a) n c → n ≠ 0 → a.block ≠ b) : Lst u v xs :=
  Kr.Lst_past hl h.2.2 fun a n c e hn => h.2.1 _ (hf a n c e hn) (hl.old a n c e hn)
theorem LF_bl {w : World} {B b : Nat} {v : Value} {xs : List Int} (h : LF w B v xs) (hb : b < B) : ∀ a n c, v = .slice (some a) n c → n ≠ 0 → a.block ≠ b := fun a n c e hn => by
  have := Kr.LF_fresh h a n c e hn
  omega
theorem EV_one {w : World} {c : Int} {s : ByteArray} {x : Value} (h : Fe.EV w c [s] x) : ∃ g, x = .iface 102 (.pointer (some ⟨g, 0, none⟩)) ∧ w.heap[g]? = some (.cells #[.string s, .iface 48 (.int .i64 c)] 104 (0, 0)) := by
  obtain ⟨g, u, hx, hg, _, hu⟩ := h
  obtain rfl : u = _ := hu
  exact ⟨g, hx, hg⟩
theorem EV_sb {w Y u : World} {b : Nat} {c : Int} {s : ByteArray} {x : Value} {l : List Value} {ty : TypeId} (h : SB w Y b u) (he : Fe.EV Y c [s] x) (hb : Bk Y b ty l) (hne : ty ≠ 104) : Fe.EV u c [s] x := by
  obtain ⟨g, v, hx, hg, hr, hv⟩ := he
  refine ⟨g, v, hx, (h.2.1 g ?_ (Array.getElem?_eq_some_iff.1 hg).1).trans hg, hr, hv⟩
  rintro rfl
  have : (some (Obj.cells l.toArray ty (0, 0))) = some (.cells #[.string s, v] 104 (0, 0)) := hb.symm.trans hg
  injection (Option.some.inj this) with _ h2 _
  exact hne h2
@[reducible] def rul0 : Value := .agg #[.bool false, .slice none 0 0, .int .i64 0, .bool false, .slice none 0 0, .int .i64 0, .bool false, .slice none 0 0, .int .i64 0, .bool false, .int .i64 0, .int .i64 0, .int .i64 0, .int .i64 0, .int .i64 0, .int .i64 0, .int .i64 0]
def Ru (w' : World) (v : Value) (g : Nat → Bool) (L : Nat → List Int) (s : Nat → Nat) (sg : Bool) (i0 i1 i2 i3 i4 i5 i6 : Int) : Prop :=
  ∃ p0 p1 p2, Kr.Tri w' (g 0) (L 0) (s 0) p0 ∧ Kr.Tri w' (g 1) (L 1) (s 1) p1 ∧ Kr.Tri w' (g 2) (L 2) (s 2) p2 ∧ v = rul p0.1 p1.1 p2.1 sg p0.2.1 p1.2.1 p2.2.1 p0.2.2 p1.2.2 p2.2.2 i0 i1 i2 i3 i4 i5 i6
def Outc (l : List Lk) (w' : World) (e : Ending) (g : Nat → Bool) (L : Nat → List Int) (s : Nat → Nat) (sg : Bool) (i0 i1 i2 i3 i4 i5 i6 : Int) : Prop :=
  (∃ k, k < l.length ∧ (∀ j, j < k → (l.getD j lk0).2.2 = false) ∧ (l.getD k lk0).2.2 = true ∧ ∃ x, Fe.EV w' (l.getD k lk0).2.1 [(l.getD k lk0).1] x ∧ e = .returned (.tuple #[rul0, x])) ∨
  ((∀ j, j < l.length → (l.getD j lk0).2.2 = false) ∧ ∃ v, Ru w' v g L s sg i0 i1 i2 i3 i4 i5 i6 ∧ e = .returned (.tuple #[v, .nilIface]))
end Kp
end Go.Proofs.Yteljedefbomlgaa
