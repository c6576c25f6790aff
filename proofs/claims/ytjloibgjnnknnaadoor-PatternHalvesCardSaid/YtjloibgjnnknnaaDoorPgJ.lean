/- Whether two patterns are the same, as the program tells it. -/
import Derived.Test.YtjloibgjnnknnaaDoorRows
import Derived.Test.YtjloibgjnnknnaaDoorInts
import Derived.Test.YtjloibgjnnknnaaDoorSto
import Derived.Test.YtjloibgjnnknnaaDoorBlk
import Derived.Test.YtjloibgjnnknnaaDoorPcs
import Derived.Test.YtjloibgjnnknnaaDoorPatM
import Derived.Test.YtjloibgjnnknnaaDoorPgH
set_option linter.unusedVariables false
set_option linter.unusedSimpArgs false
namespace Go.Proofs.YtjloibgjnnknnaaDoor
open Go.RowKit
namespace Pg
open Pt Um

@[reducible] def pv (a b c d : Value) (p s i m x : Int) : Value := .agg #[a, b, c, d, .int .i64 p, .int .i64 s, .int .i64 i, .int .i64 m, .int .i64 x]
/-- A value that reads as a pattern, its lists in blocks from B on. -/
def PV (w : World) (B : Nat) (v : Value) (X : Pat) : Prop := ∃ a b c d, v = pv a b c d X.pr X.se X.mi X.mf X.xf ∧ Pc.New w B a X.pre ∧ Pc.New w B b X.suf ∧ Pc.New w B c X.npre ∧ Pc.New w B d X.nsuf
theorem PV.q {w w' : World} {B : Nat} {v : Value} {X : Pat} (h : PV w B v X) (hq : Q w w') : PV w' B v X := by
  obtain ⟨a, b, c, d, h, h1, h2, h3, h4⟩ := h
  exact ⟨a, b, c, d, h, h1.q hq, h2.q hq, h3.q hq, h4.q hq⟩
theorem PV.mono {w : World} {B B' : Nat} {v : Value} {X : Pat} (h : PV w B v X) (hB : B' ≤ B) : PV w B' v X := by
  obtain ⟨a, b, c, d, h, h1, h2, h3, h4⟩ := h
  exact ⟨a, b, c, d, h, h1.mono hB, h2.mono hB, h3.mono hB, h4.mono hB⟩
/-- Its lists are not too long. -/
def PS (X : Pat) : Prop := X.pre.length ≤ 1000000 ∧ X.suf.length ≤ 1000000 ∧ X.npre.length ≤ 1000000 ∧ X.nsuf.length ≤ 1000000

set_option maxRecDepth 100000 in
set_option maxHeartbeats 4000000 in
theorem same_any (va vb : Value) (X Y : Pat) (w : World) (B C : Nat) (ha : PV w B va X) (hb : PV w C vb Y) (hx : PS X) (hy : PS Y) :
    Calls Tryd.prog 16 #[va, vb] w fun e w' => e = .returned (.bool (decide (X = Y))) ∧ Q w w' := by
  obtain ⟨a1, a2, a3, a4, rfl, ⟨k1, _⟩, ⟨k2, _⟩, ⟨k3, _⟩, ⟨k4, _⟩⟩ := ha
  obtain ⟨b1, b2, b3, b4, rfl, ⟨m1, _⟩, ⟨m2, _⟩, ⟨m3, _⟩, ⟨m4, _⟩⟩ := hb
  obtain ⟨x1, x2, x3, x4⟩ := hx
  obtain ⟨y1, y2, y3, y4⟩ := hy
  obtain ⟨X1, X2, X3, X4, p1, p2, p3, p4, p5⟩ := X
  obtain ⟨Y1, Y2, Y3, Y4, q1, q2, q3, q4, q5⟩ := Y
  simp only at k1 k2 k3 k4 m1 m2 m3 m4 x1 x2 x3 x4 y1 y2 y3 y4 ⊢
  have hdec : (decide ((⟨X1, X2, X3, X4, p1, p2, p3, p4, p5⟩ : Pat) = ⟨Y1, Y2, Y3, Y4, q1, q2, q3, q4, q5⟩)) = (decide (X1 = Y1) && (decide (X2 = Y2) && (decide (X3 = Y3) && (decide (X4 = Y4) && (p1 == q1 && (p2 == q2 && (p3 == q3 && (p4 == q4 && p5 == q5)))))))) := by
    rw [Bool.eq_iff_iff]
    simp
  rw [hdec]
  clear hdec
  have C1 := Lib.hid (fun w' (q : Q w w') => equal_any a1 b1 X1 Y1 w' (k1.q q) (m1.q q) (by omega) (by omega))
  have C2 := Lib.hid (fun w' (q : Q w w') => equal_any a2 b2 X2 Y2 w' (k2.q q) (m2.q q) (by omega) (by omega))
  have C3 := Lib.hid (fun w' (q : Q w w') => equal_any a3 b3 X3 Y3 w' (k3.q q) (m3.q q) (by omega) (by omega))
  have C4 := Lib.hid (fun w' (q : Q w w') => equal_any a4 b4 X4 Y4 w' (k4.q q) (m4.q q) (by omega) (by omega))
  obtain ⟨s1, e1, rfl⟩ := k1.shape
  obtain ⟨t1, g1, rfl⟩ := m1.shape
  obtain ⟨s2, e2, rfl⟩ := k2.shape
  obtain ⟨t2, g2, rfl⟩ := m2.shape
  obtain ⟨s3, e3, rfl⟩ := k3.shape
  obtain ⟨t3, g3, rfl⟩ := m3.shape
  obtain ⟨s4, e4, rfl⟩ := k4.shape
  obtain ⟨t4, g4, rfl⟩ := m4.shape
  generalize decide (X1 = Y1) = r1 at *
  generalize decide (X2 = Y2) = r2 at *
  generalize decide (X3 = Y3) = r3 at *
  generalize decide (X4 = Y4) = r4 at *
  generalize X1.length = l1 at *
  generalize Y1.length = n1 at *
  generalize X2.length = l2 at *
  generalize Y2.length = n2 at *
  generalize X3.length = l3 at *
  generalize Y3.length = n3 at *
  generalize X4.length = l4 at *
  generalize Y4.length = n4 at *
  obtain ⟨r, hr⟩ : ∃ r, r = (r1 && (r2 && (r3 && (r4 && (p1 == q1 && (p2 == q2 && (p3 == q3 && (p4 == q4 && p5 == q5)))))))) := ⟨_, rfl⟩
  rw [← hr]
  have HR := Lib.hid hr
  clear hr k1 k2 k3 k4 m1 m2 m3 m4
  have HA := Lib.hid ((Bk.new w 39 [.slice s1 l1 e1, .slice s2 l2 e2, .slice s3 l3 e3, .slice s4 l4 e4, .int .i64 p1, .int .i64 p2, .int .i64 p3, .int .i64 p4, .int .i64 p5]).q ((Q.refl _).alloc (.cells #[.slice t1 n1 g1, .slice t2 n2 g2, .slice t3 n3 g3, .slice t4 n4 g4, .int .i64 q1, .int .i64 q2, .int .i64 q3, .int .i64 q4, .int .i64 q5] 39)))
  have HB := Lib.hid (show Bk ((w.alloc (.cells #[.slice s1 l1 e1, .slice s2 l2 e2, .slice s3 l3 e3, .slice s4 l4 e4, .int .i64 p1, .int .i64 p2, .int .i64 p3, .int .i64 p4, .int .i64 p5] 39)).alloc (.cells #[.slice t1 n1 g1, .slice t2 n2 g2, .slice t3 n3 g3, .slice t4 n4 g4, .int .i64 q1, .int .i64 q2, .int .i64 q3, .int .i64 q4, .int .i64 q5] 39)) (w.heap.size + 1) 39 [.slice t1 n1 g1, .slice t2 n2 g2, .slice t3 n3 g3, .slice t4 n4 g4, .int .i64 q1, .int .i64 q2, .int .i64 q3, .int .i64 q4, .int .i64 q5] from heap_alloc2_new _ _ _)
  have HQ := Lib.hid (((Q.refl w).alloc (.cells #[.slice s1 l1 e1, .slice s2 l2 e2, .slice s3 l3 e3, .slice s4 l4 e4, .int .i64 p1, .int .i64 p2, .int .i64 p3, .int .i64 p4, .int .i64 p5] 39)).alloc (.cells #[.slice t1 n1 g1, .slice t2 n2 g2, .slice t3 n3 g3, .slice t4 n4 g4, .int .i64 q1, .int .i64 q2, .int .i64 q3, .int .i64 q4, .int .i64 q5] 39))
  go_enter Tryd.func16, Tryd.ntmps16
  go_wp2_with fail
  refine (C1.out _ HQ.out).mono ?_
  rintro e w1 ⟨rfl, hq⟩
  replace HA := Lib.hid (HA.out.q hq)
  replace HB := Lib.hid (HB.out.q hq)
  replace HQ := Lib.hid (HQ.out.trans hq)
  clear hq
  have u0 := HA.out.cell 0 rfl
  have v0 := HB.out.cell 0 rfl
  have u1 := HA.out.cell 1 rfl
  have v1 := HB.out.cell 1 rfl
  have u2 := HA.out.cell 2 rfl
  have v2 := HB.out.cell 2 rfl
  have u3 := HA.out.cell 3 rfl
  have v3 := HB.out.cell 3 rfl
  have u4 := HA.out.cell 4 rfl
  have v4 := HB.out.cell 4 rfl
  have u5 := HA.out.cell 5 rfl
  have v5 := HB.out.cell 5 rfl
  have u6 := HA.out.cell 6 rfl
  have v6 := HB.out.cell 6 rfl
  have u7 := HA.out.cell 7 rfl
  have v7 := HB.out.cell 7 rfl
  have u8 := HA.out.cell 8 rfl
  have v8 := HB.out.cell 8 rfl
  cases r1
  · go_wp2_with fail
    go_ret
    exact ⟨retB (by rw [HR.out]; simp), HQ.out⟩
  go_wp2_with fail
  clear u0 v0 u1 v1 u2 v2 u3 v3 u4 v4 u5 v5 u6 v6 u7 v7 u8 v8
  refine (C2.out _ HQ.out).mono ?_
  rintro e w2 ⟨rfl, hq⟩
  replace HA := Lib.hid (HA.out.q hq)
  replace HB := Lib.hid (HB.out.q hq)
  replace HQ := Lib.hid (HQ.out.trans hq)
  clear hq
  have u0 := HA.out.cell 0 rfl
  have v0 := HB.out.cell 0 rfl
  have u1 := HA.out.cell 1 rfl
  have v1 := HB.out.cell 1 rfl
  have u2 := HA.out.cell 2 rfl
  have v2 := HB.out.cell 2 rfl
  have u3 := HA.out.cell 3 rfl
  have v3 := HB.out.cell 3 rfl
  have u4 := HA.out.cell 4 rfl
  have v4 := HB.out.cell 4 rfl
  have u5 := HA.out.cell 5 rfl
  have v5 := HB.out.cell 5 rfl
  have u6 := HA.out.cell 6 rfl
  have v6 := HB.out.cell 6 rfl
  have u7 := HA.out.cell 7 rfl
  have v7 := HB.out.cell 7 rfl
  have u8 := HA.out.cell 8 rfl
  have v8 := HB.out.cell 8 rfl
  cases r2
  · go_wp2_with fail
    go_ret
    exact ⟨retB (by rw [HR.out]; simp), HQ.out⟩
  go_wp2_with fail
  clear u0 v0 u1 v1 u2 v2 u3 v3 u4 v4 u5 v5 u6 v6 u7 v7 u8 v8
  refine (C3.out _ HQ.out).mono ?_
  rintro e w3 ⟨rfl, hq⟩
  replace HA := Lib.hid (HA.out.q hq)
  replace HB := Lib.hid (HB.out.q hq)
  replace HQ := Lib.hid (HQ.out.trans hq)
  clear hq
  have u0 := HA.out.cell 0 rfl
  have v0 := HB.out.cell 0 rfl
  have u1 := HA.out.cell 1 rfl
  have v1 := HB.out.cell 1 rfl
  have u2 := HA.out.cell 2 rfl
  have v2 := HB.out.cell 2 rfl
  have u3 := HA.out.cell 3 rfl
  have v3 := HB.out.cell 3 rfl
  have u4 := HA.out.cell 4 rfl
  have v4 := HB.out.cell 4 rfl
  have u5 := HA.out.cell 5 rfl
  have v5 := HB.out.cell 5 rfl
  have u6 := HA.out.cell 6 rfl
  have v6 := HB.out.cell 6 rfl
  have u7 := HA.out.cell 7 rfl
  have v7 := HB.out.cell 7 rfl
  have u8 := HA.out.cell 8 rfl
  have v8 := HB.out.cell 8 rfl
  cases r3
  · go_wp2_with fail
    go_ret
    exact ⟨retB (by rw [HR.out]; simp), HQ.out⟩
  go_wp2_with fail
  clear u0 v0 u1 v1 u2 v2 u3 v3 u4 v4 u5 v5 u6 v6 u7 v7 u8 v8
  refine (C4.out _ HQ.out).mono ?_
  rintro e w4 ⟨rfl, hq⟩
  replace HA := Lib.hid (HA.out.q hq)
  replace HB := Lib.hid (HB.out.q hq)
  replace HQ := Lib.hid (HQ.out.trans hq)
  clear hq
  have u0 := HA.out.cell 0 rfl
  have v0 := HB.out.cell 0 rfl
  have u1 := HA.out.cell 1 rfl
  have v1 := HB.out.cell 1 rfl
  have u2 := HA.out.cell 2 rfl
  have v2 := HB.out.cell 2 rfl
  have u3 := HA.out.cell 3 rfl
  have v3 := HB.out.cell 3 rfl
  have u4 := HA.out.cell 4 rfl
  have v4 := HB.out.cell 4 rfl
  have u5 := HA.out.cell 5 rfl
  have v5 := HB.out.cell 5 rfl
  have u6 := HA.out.cell 6 rfl
  have v6 := HB.out.cell 6 rfl
  have u7 := HA.out.cell 7 rfl
  have v7 := HB.out.cell 7 rfl
  have u8 := HA.out.cell 8 rfl
  have v8 := HB.out.cell 8 rfl
  cases r4
  · go_wp2_with fail
    go_ret
    exact ⟨retB (by rw [HR.out]; simp), HQ.out⟩
  by_cases h1 : p1 = q1
  case neg =>
    have g : (p1 == q1) = false := beq_eq_false_iff_ne.2 h1
    clear h1
    go_wp2_with fail
    go_ret
    exact ⟨retB (by rw [HR.out]; simp [g]), HQ.out⟩
  subst h1
  by_cases h2 : p2 = q2
  case neg =>
    have g : (p2 == q2) = false := beq_eq_false_iff_ne.2 h2
    clear h2
    go_wp2_with fail
    go_ret
    exact ⟨retB (by rw [HR.out]; simp [g]), HQ.out⟩
  subst h2
  by_cases h3 : p3 = q3
  case neg =>
    have g : (p3 == q3) = false := beq_eq_false_iff_ne.2 h3
    clear h3
    go_wp2_with fail
    go_ret
    exact ⟨retB (by rw [HR.out]; simp [g]), HQ.out⟩
  subst h3
  by_cases h4 : p4 = q4
  case neg =>
    have g : (p4 == q4) = false := beq_eq_false_iff_ne.2 h4
    clear h4
    go_wp2_with fail
    go_ret
    exact ⟨retB (by rw [HR.out]; simp [g]), HQ.out⟩
  subst h4
  by_cases h5 : p5 = q5
  case neg =>
    have g : (p5 == q5) = false := beq_eq_false_iff_ne.2 h5
    clear h5
    go_wp2_with fail
    go_ret
    exact ⟨retB (by rw [HR.out]; simp [g]), HQ.out⟩
  subst h5
  go_wp2_with fail
  go_ret
  exact ⟨retB (by rw [HR.out]; simp), HQ.out⟩

end Pg
end Go.Proofs.YtjloibgjnnknnaaDoor
