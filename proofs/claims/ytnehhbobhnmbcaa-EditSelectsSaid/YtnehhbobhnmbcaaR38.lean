/- What the laws over states share. (and more) -/
import Derived.Test.YtnehhbobhnmbcaaR28
import Derived.Test.YtnehhbobhnmbcaaR37
set_option linter.all false
set_option maxRecDepth 100000
set_option maxHeartbeats 8000000
namespace Go.Proofs.Ytnehhbobhnmbcaa
section
open Go.RowKit
namespace El
open Ed Tm
open Re hiding ret_st may_any way_any sel_any tog_any mov_any ins_any word_right word_left
theorem Own_rowT {w:World} {B g:Nat} {v:Value} {zs:List Int} {ty:TypeId} {l:List Value} (h:Own w B v zs) (hb:Bk w g ty l) (ht:ty ≠ 3) (cs:Array Value):Own (w.setRow g cs) B v zs :=
 h.same fun b hv=>setRow_other w g b cs (by
  rintro rfl;obtain ⟨cur,hc⟩:=h.cells _ hv;unfold Bk at hb;rw [hb] at hc;simp at hc;exact ht hc.2)
theorem same_self (g s:Bool) (a1 a2 b1 b2:Option Addr) (n1 n2 c1 c2 d1 d2:Nat) (I F:List Int) (c a:Int) (w:World) (h1:Lst w (.slice a1 n1 c1) I) (h2:Lst w (.slice a2 n2 c2) F) (h3:Lst w (.slice b1 n1 d1) I) (h4:Lst w (.slice b2 n2 d2) F) (l1:I.length < 1000000) (l2:F.length < 1000000) :
  Calls Try.prog 17 #[.agg #[.bool g,.slice a1 n1 c1,.bool s,.slice a2 n2 c2,.int .i64 c,.int .i64 a],.agg #[.bool g,.slice b1 n1 d1,.bool s,.slice b2 n2 d2,.int .i64 c,.int .i64 a]] w fun x w'=>x = .returned (.bool true) /\ Q w w':=by
 have h:=Re.same_any g s g s a1 a2 b1 b2 n1 n2 c1 c2 n1 n2 d1 d2 I F I F c a c a w h1 h2 h3 h4 l1 l2 l1 l2;rw [(Tm.same_iff _ _).2 rfl,decide_eq_true rfl,decide_eq_true rfl] at h;exact h
def EL (ba:Nat) (V:World) (k:Nat):Prop:=∀ i:Nat,i < 3 -> ∃ (zg zs:Bool) (z1 z2:Option Addr) (zm zn z3 z4:Nat) (zI zF:List Int) (zc za:Int),(∀ u,Q V u -> u.cell? ⟨ba,i * 6,none⟩ = some (.bool zg) /\ u.cell? ⟨ba,i * 6 + 1,none⟩ = some (.slice z1 zm z3) /\ u.cell? ⟨ba,i * 6 + 2,none⟩ = some (.bool zs) /\ u.cell? ⟨ba,i * 6 + 3,none⟩ = some (.slice z2 zn z4) /\ u.cell? ⟨ba,i * 6 + 4,none⟩ = some (.int .i64 zc) /\ u.cell? ⟨ba,i * 6 + 5,none⟩ = some (.int .i64 za)) /\ Lst V (.slice z1 zm z3) zI /\ Lst V (.slice z2 zn z4) zF /\ zI.length = zm /\ zF.length = zn /\ zm <= k /\ zn <= k
theorem EL.of {ba:Nat} {V:World} {k:Nat} {T:TypeId} {g0 s0 g1 s1 g2 s2:Bool} {a0 b0 a1 b1 a2 b2:Option Addr} {m0 n0 c0 d0 m1 n1 c1 d1 m2 n2 c2 d2:Nat} {I0 F0 I1 F1 I2 F2:List Int} {p0 q0 p1 q1 p2 q2:Int}
  (hb:Bk V ba T [.bool g0,.slice a0 m0 c0,.bool s0,.slice b0 n0 d0,.int .i64 p0,.int .i64 q0,.bool g1,.slice a1 m1 c1,.bool s1,.slice b1 n1 d1,.int .i64 p1,.int .i64 q1,.bool g2,.slice a2 m2 c2,.bool s2,.slice b2 n2 d2,.int .i64 p2,.int .i64 q2])
  (h0:Lst V (.slice a0 m0 c0) I0 /\ Lst V (.slice b0 n0 d0) F0 /\ I0.length = m0 /\ F0.length = n0 /\ m0 <= k /\ n0 <= k) (h1:Lst V (.slice a1 m1 c1) I1 /\ Lst V (.slice b1 n1 d1) F1 /\ I1.length = m1 /\ F1.length = n1 /\ m1 <= k /\ n1 <= k) (h2:Lst V (.slice a2 m2 c2) I2 /\ Lst V (.slice b2 n2 d2) F2 /\ I2.length = m2 /\ F2.length = n2 /\ m2 <= k /\ n2 <= k):EL ba V k:=by
 intro i hi;have h3:i = 0 \/ i = 1 \/ i = 2:=by omega
 rcases h3 with rfl | rfl | rfl
 ·exact ⟨g0,s0,a0,b0,m0,n0,c0,d0,I0,F0,p0,q0,fun u q=>(by have hx:=hb.q q;exact ⟨hx.cell 0 rfl,hx.cell 1 rfl,hx.cell 2 rfl,hx.cell 3 rfl,hx.cell 4 rfl,hx.cell 5 rfl⟩),h0⟩
 ·exact ⟨g1,s1,a1,b1,m1,n1,c1,d1,I1,F1,p1,q1,fun u q=>(by have hx:=hb.q q;exact ⟨hx.cell 6 rfl,hx.cell 7 rfl,hx.cell 8 rfl,hx.cell 9 rfl,hx.cell 10 rfl,hx.cell 11 rfl⟩),h1⟩
 ·exact ⟨g2,s2,a2,b2,m2,n2,c2,d2,I2,F2,p2,q2,fun u q=>(by have hx:=hb.q q;exact ⟨hx.cell 12 rfl,hx.cell 13 rfl,hx.cell 14 rfl,hx.cell 15 rfl,hx.cell 16 rfl,hx.cell 17 rfl⟩),h2⟩
end El
end
end Go.Proofs.Ytnehhbobhnmbcaa
