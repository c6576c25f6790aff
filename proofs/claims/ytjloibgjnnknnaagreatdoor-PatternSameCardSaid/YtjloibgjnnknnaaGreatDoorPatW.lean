/- The document's own answers on patterns: Same. -/
import Derived.Test.YtjloibgjnnknnaaGreatDoorRows
import Derived.Test.YtjloibgjnnknnaaGreatDoorInts
import Derived.Test.YtjloibgjnnknnaaGreatDoorSto
import Derived.Test.YtjloibgjnnknnaaGreatDoorPcs
import Derived.Test.YtjloibgjnnknnaaGreatDoorPatM
import Derived.Test.YtjloibgjnnknnaaGreatDoorPatS
import Derived.Test.YtjloibgjnnknnaaGreatDoorPatT
import Derived.Test.YtjloibgjnnknnaaGreatDoorPatU
import Derived.Test.YtjloibgjnnknnaaGreatDoorPatV
import Derived.Deep.QuietTactic
import Derived.BigQuiet
set_option linter.unusedVariables false
set_option linter.unusedSimpArgs false
namespace Go.Proofs.YtjloibgjnnknnaaGreatDoor
open Go.RowKit
namespace Pr
open Pt Um

/-- A value that reads as a pattern. -/
def PV (w : World) (v : Value) (X : Pat) : Prop := ∃ a b c d, v = pv a b c d X.pr X.se X.mi X.mf X.xf ∧ Pc.LstP w a X.pre ∧ Pc.LstP w b X.suf ∧ Pc.LstP w c X.npre ∧ Pc.LstP w d X.nsuf
theorem PV.q {w w' : World} {v : Value} {X : Pat} (h : PV w v X) (hq : Q w w') : PV w' v X := by
  obtain ⟨a, b, c, d, h, h1, h2, h3, h4⟩ := h
  exact ⟨a, b, c, d, h, h1.q hq, h2.q hq, h3.q hq, h4.q hq⟩
/-- Its lists are not too long. -/
def PS (X : Pat) : Prop := X.pre.length < 1099511627776 ∧ X.suf.length < 1099511627776 ∧ X.npre.length < 1099511627776 ∧ X.nsuf.length < 1099511627776

set_option maxRecDepth 100000 in
set_option maxHeartbeats 4000000 in
theorem same_any (va vb : Value) (X Y : Pat) (w : World) (ha : PV w va X) (hb : PV w vb Y) (hx : PS X) (hy : PS Y) :
    Calls Tryz.prog 8 #[va, vb] w fun e w' => e = .returned (.bool (decide (X = Y))) ∧ Q w w' := by
  obtain ⟨a1, a2, a3, a4, rfl, k1, k2, k3, k4⟩ := ha
  obtain ⟨b1, b2, b3, b4, rfl, m1, m2, m3, m4⟩ := hb
  obtain ⟨x1, x2, x3, x4⟩ := hx
  obtain ⟨y1, y2, y3, y4⟩ := hy
  obtain ⟨X1, X2, X3, X4, p1, p2, p3, p4, p5⟩ := X
  obtain ⟨Y1, Y2, Y3, Y4, q1, q2, q3, q4, q5⟩ := Y
  simp only at k1 k2 k3 k4 m1 m2 m3 m4 x1 x2 x3 x4 y1 y2 y3 y4 ⊢
  have hdec : (decide ((⟨X1, X2, X3, X4, p1, p2, p3, p4, p5⟩ : Pat) = ⟨Y1, Y2, Y3, Y4, q1, q2, q3, q4, q5⟩)) = (decide (X1 = Y1) && (decide (X2 = Y2) && (decide (X3 = Y3) && (decide (X4 = Y4) && (p1 == q1 && (p2 == q2 && (p3 == q3 && (p4 == q4 && p5 == q5)))))))) := by
    rw [Bool.eq_iff_iff]
    simp
  rw [hdec]
  clear hdec
  have C1 := Lib.hid (fun w' (q : Q w w') => samep_any a1 b1 X1 Y1 w' (k1.q q) (m1.q q) x1 y1)
  have C2 := Lib.hid (fun w' (q : Q w w') => samep_any a2 b2 X2 Y2 w' (k2.q q) (m2.q q) x2 y2)
  have C3 := Lib.hid (fun w' (q : Q w w') => samep_any a3 b3 X3 Y3 w' (k3.q q) (m3.q q) x3 y3)
  have C4 := Lib.hid (fun w' (q : Q w w') => samep_any a4 b4 X4 Y4 w' (k4.q q) (m4.q q) x4 y4)
  obtain ⟨s1, e1, rfl⟩ := k1.shape
  obtain ⟨s2, e2, rfl⟩ := k2.shape
  obtain ⟨s3, e3, rfl⟩ := k3.shape
  obtain ⟨s4, e4, rfl⟩ := k4.shape
  obtain ⟨t1, g1, rfl⟩ := m1.shape
  obtain ⟨t2, g2, rfl⟩ := m2.shape
  obtain ⟨t3, g3, rfl⟩ := m3.shape
  obtain ⟨t4, g4, rfl⟩ := m4.shape
  generalize decide (X1 = Y1) = r1 at *
  generalize decide (X2 = Y2) = r2 at *
  generalize decide (X3 = Y3) = r3 at *
  generalize decide (X4 = Y4) = r4 at *
  generalize X1.length = l1 at *
  generalize X2.length = l2 at *
  generalize X3.length = l3 at *
  generalize X4.length = l4 at *
  generalize Y1.length = n1 at *
  generalize Y2.length = n2 at *
  generalize Y3.length = n3 at *
  generalize Y4.length = n4 at *
  obtain ⟨r, hr⟩ : ∃ r, r = (r1 && (r2 && (r3 && (r4 && (p1 == q1 && (p2 == q2 && (p3 == q3 && (p4 == q4 && p5 == q5)))))))) := ⟨_, rfl⟩
  rw [← hr]
  have HR := Lib.hid hr
  clear hr k1 k2 k3 k4 m1 m2 m3 m4
  have hb0 : PB ((w.alloc (.cells #[.slice s1 l1 e1, .slice s2 l2 e2, .slice s3 l3 e3, .slice s4 l4 e4, .int .i64 p1, .int .i64 p2, .int .i64 p3, .int .i64 p4, .int .i64 p5] 35)).alloc (.cells #[.slice t1 n1 g1, .slice t2 n2 g2, .slice t3 n3 g3, .slice t4 n4 g4, .int .i64 q1, .int .i64 q2, .int .i64 q3, .int .i64 q4, .int .i64 q5] 35)) w.heap.size (.slice s1 l1 e1) (.slice s2 l2 e2) (.slice s3 l3 e3) (.slice s4 l4 e4) p1 p2 p3 p4 p5 := heap_alloc2_old _ _ _
  have hb1 : PB ((w.alloc (.cells #[.slice s1 l1 e1, .slice s2 l2 e2, .slice s3 l3 e3, .slice s4 l4 e4, .int .i64 p1, .int .i64 p2, .int .i64 p3, .int .i64 p4, .int .i64 p5] 35)).alloc (.cells #[.slice t1 n1 g1, .slice t2 n2 g2, .slice t3 n3 g3, .slice t4 n4 g4, .int .i64 q1, .int .i64 q2, .int .i64 q3, .int .i64 q4, .int .i64 q5] 35)) (w.heap.size + 1) (.slice t1 n1 g1) (.slice t2 n2 g2) (.slice t3 n3 g3) (.slice t4 n4 g4) q1 q2 q3 q4 q5 := heap_alloc2_new _ _ _
  have hq0 : Q w ((w.alloc (.cells #[.slice s1 l1 e1, .slice s2 l2 e2, .slice s3 l3 e3, .slice s4 l4 e4, .int .i64 p1, .int .i64 p2, .int .i64 p3, .int .i64 p4, .int .i64 p5] 35)).alloc (.cells #[.slice t1 n1 g1, .slice t2 n2 g2, .slice t3 n3 g3, .slice t4 n4 g4, .int .i64 q1, .int .i64 q2, .int .i64 q3, .int .i64 q4, .int .i64 q5] 35)) := ((Q.refl w).alloc _).alloc _
  have HA0 := Lib.hid hb0
  have HB0 := Lib.hid hb1
  have HQ0 := Lib.hid hq0
  clear hb0 hb1 hq0
  go_enter Tryz.func8, Tryz.ntmps8
  unfold pv
  go_wp2_with fail
  refine (C1.out _ HQ0.out).mono ?_
  rintro e w1 ⟨rfl, hq⟩
  have HA1 := Lib.hid (HA0.out.q hq)
  have HB1 := Lib.hid (HB0.out.q hq)
  have HQ1 := Lib.hid (HQ0.out.trans hq)
  clear HA0 HB0 HQ0 hq
  obtain ⟨u0, u1, u2, u3, u4, u5, u6, u7, u8⟩ := HA1.out.cells
  obtain ⟨v0, v1, v2, v3, v4, v5, v6, v7, v8⟩ := HB1.out.cells
  go_wp2_with fail
  clear u0 u1 u2 u3 u4 u5 u6 u7 u8 v0 v1 v2 v3 v4 v5 v6 v7 v8
  refine (C2.out _ HQ1.out).mono ?_
  rintro e w2 ⟨rfl, hq⟩
  have HA2 := Lib.hid (HA1.out.q hq)
  have HB2 := Lib.hid (HB1.out.q hq)
  have HQ2 := Lib.hid (HQ1.out.trans hq)
  clear HA1 HB1 HQ1 hq
  obtain ⟨u0, u1, u2, u3, u4, u5, u6, u7, u8⟩ := HA2.out.cells
  obtain ⟨v0, v1, v2, v3, v4, v5, v6, v7, v8⟩ := HB2.out.cells
  go_wp2_with fail
  clear u0 u1 u2 u3 u4 u5 u6 u7 u8 v0 v1 v2 v3 v4 v5 v6 v7 v8
  refine (C3.out _ HQ2.out).mono ?_
  rintro e w3 ⟨rfl, hq⟩
  have HA3 := Lib.hid (HA2.out.q hq)
  have HB3 := Lib.hid (HB2.out.q hq)
  have HQ3 := Lib.hid (HQ2.out.trans hq)
  clear HA2 HB2 HQ2 hq
  obtain ⟨u0, u1, u2, u3, u4, u5, u6, u7, u8⟩ := HA3.out.cells
  obtain ⟨v0, v1, v2, v3, v4, v5, v6, v7, v8⟩ := HB3.out.cells
  go_wp2_with fail
  clear u0 u1 u2 u3 u4 u5 u6 u7 u8 v0 v1 v2 v3 v4 v5 v6 v7 v8
  refine (C4.out _ HQ3.out).mono ?_
  rintro e w4 ⟨rfl, hq⟩
  have HA4 := Lib.hid (HA3.out.q hq)
  have HB4 := Lib.hid (HB3.out.q hq)
  have HQ4 := Lib.hid (HQ3.out.trans hq)
  clear HA3 HB3 HQ3 hq
  obtain ⟨u0, u1, u2, u3, u4, u5, u6, u7, u8⟩ := HA4.out.cells
  obtain ⟨v0, v1, v2, v3, v4, v5, v6, v7, v8⟩ := HB4.out.cells
  cases r1
  · go_wp2_with fail
    go_ret
    exact ⟨retB (by rw [HR.out]; simp), HQ4.out⟩
  · skip
    cases r2
    · go_wp2_with fail
      go_ret
      exact ⟨retB (by rw [HR.out]; simp), HQ4.out⟩
    · skip
      cases r3
      · go_wp2_with fail
        go_ret
        exact ⟨retB (by rw [HR.out]; simp), HQ4.out⟩
      · skip
        cases r4
        · go_wp2_with fail
          go_ret
          exact ⟨retB (by rw [HR.out]; simp), HQ4.out⟩
        · skip
          by_cases h1 : p1 = q1
          case neg =>
            have g : (p1 == q1) = false := beq_eq_false_iff_ne.2 h1
            clear h1
            go_wp2_with fail
            go_ret
            exact ⟨retB (by rw [HR.out]; simp [g]), HQ4.out⟩
          subst h1
          by_cases h2 : p2 = q2
          case neg =>
            have g : (p2 == q2) = false := beq_eq_false_iff_ne.2 h2
            clear h2
            go_wp2_with fail
            go_ret
            exact ⟨retB (by rw [HR.out]; simp [g]), HQ4.out⟩
          subst h2
          by_cases h3 : p3 = q3
          case neg =>
            have g : (p3 == q3) = false := beq_eq_false_iff_ne.2 h3
            clear h3
            go_wp2_with fail
            go_ret
            exact ⟨retB (by rw [HR.out]; simp [g]), HQ4.out⟩
          subst h3
          by_cases h4 : p4 = q4
          case neg =>
            have g : (p4 == q4) = false := beq_eq_false_iff_ne.2 h4
            clear h4
            go_wp2_with fail
            go_ret
            exact ⟨retB (by rw [HR.out]; simp [g]), HQ4.out⟩
          subst h4
          by_cases h5 : p5 = q5
          case neg =>
            have g : (p5 == q5) = false := beq_eq_false_iff_ne.2 h5
            clear h5
            go_wp2_with fail
            go_ret
            exact ⟨retB (by rw [HR.out]; simp [g]), HQ4.out⟩
          subst h5
          go_wp2_with fail
          go_ret
          exact ⟨retB (by rw [HR.out]; simp), HQ4.out⟩

end Pr
end Go.Proofs.YtjloibgjnnknnaaGreatDoor
