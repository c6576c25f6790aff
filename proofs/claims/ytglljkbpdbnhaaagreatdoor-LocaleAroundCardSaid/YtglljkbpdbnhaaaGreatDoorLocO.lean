/- An affix's parts as the document's own answer makes them, one after the other, are the program's. -/
import Derived.Test.YtglljkbpdbnhaaaGreatDoorRows
import Derived.Test.YtglljkbpdbnhaaaGreatDoorMA
import Derived.Test.YtglljkbpdbnhaaaGreatDoorMB
import Derived.Test.YtglljkbpdbnhaaaGreatDoorMBP
import Derived.Test.YtglljkbpdbnhaaaGreatDoorLocM
import Derived.Test.YtglljkbpdbnhaaaGreatDoorLocB
import Derived.Test.YtglljkbpdbnhaaaGreatDoorLocC
import Derived.Test.YtglljkbpdbnhaaaGreatDoorLocP
import Derived.Test.YtglljkbpdbnhaaaGreatDoorLocQ
import Derived.Test.YtglljkbpdbnhaaaGreatDoorLocR
import Derived.Test.YtglljkbpdbnhaaaGreatDoorLocS
set_option linter.unusedVariables false
set_option linter.unusedSimpArgs false
namespace Go.Proofs.YtglljkbpdbnhaaaGreatDoor
open Go.RowKit
namespace Ro
open Um Cm Gm Lo

/-- A text that is not empty, as a part. -/
def tx1 (s : List UInt8) : List Pb.E := if s.isEmpty then [] else [(false, s)]
/-- The parts of pieces, where `s` has been read and not told yet. -/
def refP (r : Lm.Rec) : List Pc.E → List UInt8 → List Pb.E
  | [], s => tx1 s
  | p :: A, s => if p.1 = 3 then tx1 s ++ ((true, []) : Pb.E) :: refP r A [] else refP r A (s ++ Lm.ptx r p)
theorem tx1_eq (s : List UInt8) : tx1 s = [((false, s) : Pb.E)].filter keepP := by
  unfold tx1
  cases s <;> simp [keepP]
theorem refP_plain (r : Lm.Rec) : ∀ (A : List Pc.E) (s : List UInt8), Lm.cnt 3 A = 0 → refP r A s = tx1 (s ++ Lm.atx r A)
  | [], s, _ => by simp [refP, Lm.atx]
  | p :: A, s, h => by
    unfold Lm.cnt at h
    rw [List.countP_cons] at h
    have hp : p.1 ≠ 3 := fun e => by simp [e] at h
    have hA : Lm.cnt 3 A = 0 := by unfold Lm.cnt; omega
    rw [refP, if_neg hp, refP_plain r A _ hA]
    simp [Lm.atx]
theorem refP_gen (r : Lm.Rec) : ∀ (A : List Pc.E) (s : List UInt8) (k : Nat), Lm.cnt 3 A ≤ 1 → (∀ x ∈ A, x.1 = 3 → x.2 = []) →
    refP r A s = if mPl A k < 0 then tx1 (s ++ Lm.atx r A) else tx1 (s ++ Lm.atx r (A.take (mPl A k - k).toNat)) ++ ((true, []) : Pb.E) :: tx1 (Lm.atx r (A.drop ((mPl A k - k).toNat + 1)))
  | [], s, k, _, _ => by simp [refP, Lm.atx, mPl]
  | p :: A, s, k, h, hx => by
    unfold Lm.cnt at h
    rw [List.countP_cons] at h
    by_cases hp : p.1 = 3
    · have e : p = (3, []) := Prod.ext hp (hx p (by simp) hp)
      have hA : Lm.cnt 3 A = 0 := by
        have h1 : (if ((p.1 == 3) = true) then 1 else 0) = 1 := by rw [hp]; rfl
        rw [h1] at h
        unfold Lm.cnt; omega
      have hm : mPl (p :: A) k = (k : Int) := by unfold mPl; rw [if_pos e]
      rw [refP, if_pos hp, refP_plain r A [] hA, hm, if_neg (by omega)]
      have h0 : ((k : Int) - (k : Int)).toNat = 0 := by omega
      rw [h0]
      simp [Lm.atx]
    · have e : ¬ p = (3, []) := fun e => hp (by rw [e])
      have hA : Lm.cnt 3 A ≤ 1 := by unfold Lm.cnt; omega
      have hm : mPl (p :: A) k = mPl A (k + 1) := by rw [mPl, if_neg e]
      rw [refP, if_neg hp, refP_gen r A _ (k + 1) hA (fun x hxx => hx x (by simp [hxx])), hm]
      rcases mPl_bd A (k + 1) with h1 | ⟨h1, h2⟩
      · rw [h1, if_pos (by omega), if_pos (by omega)]
        simp [Lm.atx]
      · rw [if_neg (by omega), if_neg (by omega)]
        have hn : (mPl A (k + 1) - (k : Int)).toNat = (mPl A (k + 1) - ((k + 1 : Nat) : Int)).toNat + 1 := by omega
        rw [hn]
        simp [Lm.atx]
theorem refP_eq (r : Lm.Rec) (A : List Pc.E) (h : Lm.cnt 3 A ≤ 1) (hx : ∀ x ∈ A, x.1 = 3 → x.2 = []) : refP r A [] = parP r A := by
  rw [refP_gen r A [] 0 h hx]
  unfold parP
  split
  · rw [tx1_eq]; rfl
  · rw [tx1_eq, tx1_eq]
    simp only [List.nil_append, List.filter_cons, List.filter_nil]
    simp [keepP]
    split <;> simp
/-- What is told of the pieces read so far, and what has not been told yet. -/
def refO (r : Lm.Rec) : List Pc.E → List UInt8 → List Pb.E × List UInt8
  | [], s => ([], s)
  | p :: A, s => if p.1 = 3 then (tx1 s ++ ((true, []) : Pb.E) :: (refO r A []).1, (refO r A []).2) else refO r A (s ++ Lm.ptx r p)
theorem refO_all (r : Lm.Rec) : ∀ (A : List Pc.E) (s : List UInt8), refP r A s = (refO r A s).1 ++ tx1 (refO r A s).2
  | [], s => by simp [refP, refO]
  | p :: A, s => by
    unfold refP refO
    split
    · rw [refO_all r A []]; simp
    · exact refO_all r A _
theorem refO_snoc (r : Lm.Rec) (p : Pc.E) : ∀ (A : List Pc.E) (s : List UInt8), refO r (A ++ [p]) s = if p.1 = 3 then ((refO r A s).1 ++ tx1 (refO r A s).2 ++ [((true, []) : Pb.E)], []) else ((refO r A s).1, (refO r A s).2 ++ Lm.ptx r p)
  | [], s => by
    simp only [List.nil_append, refO]
  | q :: A, s => by
    rw [List.cons_append, refO, refO]
    by_cases hq : q.1 = 3
    · rw [if_pos hq, if_pos hq, refO_snoc r p A []]
      split <;> simp
    · rw [if_neg hq, if_neg hq]
      exact refO_snoc r p A _
theorem refO_len (r : Lm.Rec) : ∀ (A : List Pc.E) (s : List UInt8), (refO r A s).2.length ≤ s.length + (Lm.atx r A).length
  | [], s => by simp [refO, Lm.atx]
  | p :: A, s => by
    rw [refO]
    split
    · have := refO_len r A []
      simp [Lm.atx] at this ⊢
      omega
    · have := refO_len r A (s ++ Lm.ptx r p)
      simp [Lm.atx] at this ⊢
      omega
theorem refO_few (r : Lm.Rec) : ∀ (A : List Pc.E) (s : List UInt8), (refO r A s).1.length ≤ 2 * A.length
  | [], s => by simp [refO]
  | p :: A, s => by
    rw [refO]
    split
    · have := refO_few r A []
      have h2 : (tx1 s).length ≤ 1 := by unfold tx1; split <;> simp
      simp only [List.length_append, List.length_cons]
      omega
    · have := refO_few r A (s ++ Lm.ptx r p)
      simp only [List.length_cons]
      omega
end Ro
end Go.Proofs.YtglljkbpdbnhaaaGreatDoor
