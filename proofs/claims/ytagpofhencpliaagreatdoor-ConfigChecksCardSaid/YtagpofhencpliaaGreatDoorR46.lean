/- What New of whatever configuration comes to, on both sides: the same rules and no error, or none and the same error at the same place. (and more) -/
import Derived.Test.YtagpofhencpliaaGreatDoorR00
import Derived.Test.YtagpofhencpliaaGreatDoorR04
import Derived.Test.YtagpofhencpliaaGreatDoorR22
import Derived.Test.YtagpofhencpliaaGreatDoorR37
import Derived.Test.YtagpofhencpliaaGreatDoorR32
import Derived.Test.YtagpofhencpliaaGreatDoorR21
import Derived.Test.YtagpofhencpliaaGreatDoorR09
import Derived.Test.YtagpofhencpliaaGreatDoorR28
import Derived.Test.YtagpofhencpliaaGreatDoorR06
import Derived.Test.YtagpofhencpliaaGreatDoorR08
import Derived.Test.YtagpofhencpliaaGreatDoorR02
import Derived.Test.YtagpofhencpliaaGreatDoorR10
import Derived.Test.YtagpofhencpliaaGreatDoorR40
import Derived.Test.YtagpofhencpliaaGreatDoorR41
import Derived.Test.YtagpofhencpliaaGreatDoorR35
import Derived.Test.YtagpofhencpliaaGreatDoorR03
import Derived.Test.YtagpofhencpliaaGreatDoorRows
import Derived.Test.YtagpofhencpliaaGreatDoorR45
import Derived.Test.YtagpofhencpliaaGreatDoorR14
import Derived.Test.YtagpofhencpliaaGreatDoorR13
import Derived.Laws.Rows
import Derived.Deep.Cut
import Derived.KernelRfl
set_option linter.unusedVariables false
set_option linter.unusedSimpArgs false
namespace Go.Proofs.YtagpofhencpliaaGreatDoor
open Go.RowKit
namespace Kc
theorem infoG : (Tryz.prog.info? 30).map (·.size) = some 15 := by kernel_rfl
theorem load_rowG {P : Program} {ops : Array Oper} {rest : List Oper} {o : Oper} {a : Act} {w : World} {R : Exit → Act → World → Prop} (hw : Region.wanted o (yielded ops a.tmps) = true) (ty : TypeId) (x : Operand) (ho : o.op = .load ty x)
    (g : Nat) (hx : a.eval x = .pointer (some ⟨g, 0, none⟩)) (t : TypeId) (cs : Array Value) (fr : Nat × Nat) (d : TypeDesc) (hg : w.heap[g]? = some (.cells cs t fr))
    (hu : P.underlying ty = some d) (hd : (match d with | .struct _ | .array _ _ => true | _ => false) = true) (hi : (P.info? ty).map (·.size) = some cs.size)
    (h : wpList P ops R rest (a.put o.dst (.agg cs)) w) : wpList P ops R (o :: rest) a w :=
  wpList_step fun K hK => by
    rw [if_pos hw]
    exact wp_load_row ty x ho g hx t cs fr d hg hu hd hi (hK _ _ h)
theorem hx_q {w w' : World} {c : Int} {wh : ByteArray} {x : Value} (q : Q w w') (h : (c = 0 ∧ x = .nilIface) ∨ (c ≠ 0 ∧ Fe.EV w c [wh] x)) : (c = 0 ∧ x = .nilIface) ∨ (c ≠ 0 ∧ Fe.EV w' c [wh] x) := h.imp id fun k => ⟨k.1, Fe.EV.q q k.2⟩
theorem tri_of {w : World} {g : Bool} {L : List Int} {s : Nat} {p : D3.E} (h : Kr.Tri w g L s p) : ∃ a c, p = ((Dm.cg g (Dm.num L), (Value.slice a (Dm.dg (Dm.st (Dm.num L) s).1).length c), (((Dm.st (Dm.num L) s).2 : Nat) : Int)) : D3.E) ∧ Lst w (.slice a (Dm.dg (Dm.st (Dm.num L) s).1).length c) (Dm.dg (Dm.st (Dm.num L) s).1) := by
  obtain ⟨p1, p2, p3⟩ := p
  obtain ⟨h1, h2, h3, _⟩ := h
  simp only at h1 h2 h3
  obtain ⟨a, c, h4⟩ := h2.shape
  subst h4
  exact ⟨a, c, by rw [h1, h3], h2⟩
theorem nil3 (w : World) : Lst w (.slice none 0 0) [] := Lst.nil w none 0 (by unfold maxLen; omega) (fun _ => rfl)
set_option maxHeartbeats 4000000 in
theorem both (t0 t1 t2 : ByteArray) (i0 i1 i2 i3 i4 i5 i6 : Int) (h0 : t0.size ≤ 100) (h1 : t1.size ≤ 100) (h2 : t2.size ≤ 100) (h5 : In64 i5) :
    ∃ (g1 g2 g3 sg : Bool) (k1 k2 k3 : Nat) (s1 s2 s3 j0 j1 j2 j3 j4 j5 j6 : Int) (Z1 Z2 Z3 : List Int) (wh : ByteArray) (c : Int), (Z1.length < 1000000 ∧ Z2.length < 1000000 ∧ Z3.length < 1000000) ∧
      (∀ u, Calls Tryz.prog 8 #[.agg #[.string t0, .string t1, .string t2, .int .i64 i0, .int .i64 i1, .int .i64 i2, .int .i64 i3, .int .i64 i4, .int .i64 i5, .int .i64 i6]] u fun e w' => ∃ a1 c1 a2 c2 a3 c3 x, e = .returned (.tuple #[.agg #[.bool g1, .slice a1 k1 c1, .int .i64 s1, .bool g2, .slice a2 k2 c2, .int .i64 s2, .bool g3, .slice a3 k3 c3, .int .i64 s3, .bool sg, .int .i64 j0, .int .i64 j1, .int .i64 j2, .int .i64 j3, .int .i64 j4, .int .i64 j5, .int .i64 j6], x]) ∧ (Lst w' (.slice a1 k1 c1) Z1 ∧ Lst w' (.slice a2 k2 c2) Z2 ∧ Lst w' (.slice a3 k3 c3) Z3) ∧ ((c = 0 ∧ x = .nilIface) ∨ (c ≠ 0 ∧ Fe.EV w' c [wh] x)) ∧ Q u w') ∧
      (∀ u, Calls Tryz.prog 10 #[.agg #[.string t0, .string t1, .string t2, .int .i64 i0, .int .i64 i1, .int .i64 i2, .int .i64 i3, .int .i64 i4, .int .i64 i5, .int .i64 i6]] u fun e w' => ∃ a1 c1 a2 c2 a3 c3, e = .returned (.tuple #[.agg #[.bool g1, .slice a1 k1 c1, .int .i64 s1, .bool g2, .slice a2 k2 c2, .int .i64 s2, .bool g3, .slice a3 k3 c3, .int .i64 s3, .bool sg, .int .i64 j0, .int .i64 j1, .int .i64 j2, .int .i64 j3, .int .i64 j4, .int .i64 j5, .int .i64 j6], .string wh, .int .i64 c]) ∧ (Lst w' (.slice a1 k1 c1) Z1 ∧ Lst w' (.slice a2 k2 c2) Z2 ∧ Lst w' (.slice a3 k3 c3) Z3) ∧ Q u w') := by
  have hsz : ∀ i, i < 3 → (Kr.tx t0 t1 t2 i).size ≤ 100 := by
    intro i hi
    rcases i with _ | _ | _ | i
    · exact h0
    · exact h1
    · exact h2
    · omega
  obtain ⟨g, hg⟩ : ∃ g : Nat → Bool, g = fun i => (Dm.prs (Kr.tx t0 t1 t2 i).data.toList).1 := ⟨_, rfl⟩
  obtain ⟨L, hL⟩ : ∃ L : Nat → List Int, L = fun i => (Dm.prs (Kr.tx t0 t1 t2 i).data.toList).2.1 := ⟨_, rfl⟩
  obtain ⟨s, hs⟩ : ∃ s : Nat → Nat, s = fun i => (Dm.prs (Kr.tx t0 t1 t2 i).data.toList).2.2.1 := ⟨_, rfl⟩
  obtain ⟨r, hr⟩ : ∃ r : Nat → Int, r = fun i => (Dm.prs (Kr.tx t0 t1 t2 i).data.toList).2.2.2 := ⟨_, rfl⟩
  have hp : ∀ i, i < 3 → Dm.prs (Kr.tx t0 t1 t2 i).data.toList = (g i, L i, s i, r i) := by
    intro i _
    rw [hg, hL, hs, hr]
  have hok : ∀ i, i < 3 → Dm.okD (L i) ∧ (L i).length ≤ 100 ∧ s i ≤ 1000 ∧ 0 ≤ r i ∧ r i ≤ 100 := by
    intro i hi
    have h := Km.prs_ok (Kr.tx t0 t1 t2 i).data.toList
    rw [hp i hi] at h
    have hz := hsz i hi
    have hl : (Kr.tx t0 t1 t2 i).data.toList.length = (Kr.tx t0 t1 t2 i).size := by rw [Array.length_toList]; rfl
    refine ⟨h.1, ?_, h.2.2.1, h.2.2.2⟩
    have := h.2.1
    dsimp only at this
    omega
  clear hg hL hs hr
  obtain ⟨ft, hft⟩ : ∃ ft : Nat → Bool, ft = fun i => Km.fit i0 i2 (Dm.num (L i)) (s i) := ⟨_, rfl⟩
  obtain ⟨c2, hc2⟩ : ∃ c, c = Dm.cmpD (Dm.cg (g 2) (Dm.num (L 2))) (Dm.st (Dm.num (L 2)) (s 2)).1 (Dm.st (Dm.num (L 2)) (s 2)).2 false 0 0 := ⟨_, rfl⟩
  obtain ⟨c01, hc01⟩ : ∃ c, c = Dm.cmpD (Dm.cg (g 0) (Dm.num (L 0))) (Dm.st (Dm.num (L 0)) (s 0)).1 (Dm.st (Dm.num (L 0)) (s 0)).2 (Dm.cg (g 1) (Dm.num (L 1))) (Dm.st (Dm.num (L 1)) (s 1)).1 (Dm.st (Dm.num (L 1)) (s 1)).2 := ⟨_, rfl⟩
  obtain ⟨R, hR⟩ : ∃ R, R = Kp.rws i0 i1 i2 i3 i4 i6 (Rm.nm i5).toList.isEmpty r ft c2 c01 := ⟨_, rfl⟩
  have hP := fun u => Kp.new_any t0 t1 t2 i0 i1 i2 i3 i4 i5 i6 u g L s r ft (Dm.cg (g 0) (Dm.num (L 0))) c2 c01 h5 (fun i hi => by have := hsz i hi; omega) hp (fun i hi => by have := (hok i hi).2.1; omega) (fun i hi => (hok i hi).1) (fun i hi => (hok i hi).2.2.1)
    (fun i _ => by rw [hft]; unfold Km.fit; rw [Dm.st_trim]) hc2 hc01 (Km.neg_cmp (g 0) (Dm.num (L 0)) (s 0)).symm
  have hD := fun u => Kr.new_all t0 t1 t2 i0 i1 i2 i3 i4 i5 i6 u g L s r ft c2 c01 (fun i hi => by have := hsz i hi; omega) hp (fun i hi => by have := (hok i hi).2.1; omega) (fun i hi => (hok i hi).1) (fun i hi => (hok i hi).2.2.1) (fun i hi => (hok i hi).2.2.2)
    (fun i _ => by rw [hft]) hc2 hc01 R hR
  have hlen : R.length = 15 := by rw [hR]; rfl
  have hcode : ∀ i, i < 15 → (R.getD i Kp.lk0).2.2 = true → (R.getD i Kp.lk0).2.1 ≠ 0 := by rw [hR]; exact Kp.rws_code _ _ _ _ _ _ _ _ _ _ _
  rw [← hR] at hP
  clear hR hc2 hc01 hft
  have hz : ∀ i, i < 3 → (Dm.dg (Dm.st (Dm.num (L i)) (s i)).1).length < 1000000 := by
    intro i hi
    have e1 : (Dm.st (Dm.num (L i)) (s i)).1 ≤ Dm.num (L i) := by
      have e2 := Dm.st_num (Dm.num (L i)) (s i)
      have e3 := Nat.le_mul_of_pos_right (Dm.st (Dm.num (L i)) (s i)).1 (Nat.pow_pos (n := s i - (Dm.st (Dm.num (L i)) (s i)).2) (show 0 < 10 from by omega))
      omega
    have e2 := Dm.dg_len_le _ _ e1
    have e3 := Dm.dg_len (L i) (hok i hi).1
    have e4 := (hok i hi).2.1
    omega
  cases hfw : Kr.fw R with
  | none =>
    refine ⟨Dm.cg (g 0) (Dm.num (L 0)), Dm.cg (g 1) (Dm.num (L 1)), Dm.cg (g 2) (Dm.num (L 2)), Dm.cg (g 0) (Dm.num (L 0)), (Dm.dg (Dm.st (Dm.num (L 0)) (s 0)).1).length, (Dm.dg (Dm.st (Dm.num (L 1)) (s 1)).1).length, (Dm.dg (Dm.st (Dm.num (L 2)) (s 2)).1).length, ((Dm.st (Dm.num (L 0)) (s 0)).2 : Nat), ((Dm.st (Dm.num (L 1)) (s 1)).2 : Nat), ((Dm.st (Dm.num (L 2)) (s 2)).2 : Nat), i0, i1, i2, i3, i4, i5, i6, (Dm.dg (Dm.st (Dm.num (L 0)) (s 0)).1), (Dm.dg (Dm.st (Dm.num (L 1)) (s 1)).1), (Dm.dg (Dm.st (Dm.num (L 2)) (s 2)).1), ByteArray.empty, 0, ⟨hz 0 (by omega), hz 1 (by omega), hz 2 (by omega)⟩, ?_, ?_⟩
    · intro u
      refine (hP u).mono ?_
      rintro e w' ⟨ho, hq⟩
      rcases ho with ⟨k, hk, hlow, hw, _⟩ | ⟨_, v, ⟨q0, q1, q2, r0, r1, r2, rfl⟩, rfl⟩
      · have := Kr.fw_some R k hk hlow hw
        rw [hfw] at this
        cases this
      · obtain ⟨a1, c1, rfl, l1⟩ := tri_of r0
        obtain ⟨a2, c2, rfl, l2⟩ := tri_of r1
        obtain ⟨a3, c3, rfl, l3⟩ := tri_of r2
        exact ⟨a1, c1, a2, c2, a3, c3, .nilIface, rfl, ⟨l1, l2, l3⟩, .inl ⟨rfl, rfl⟩, hq⟩
    · intro u
      refine (hD u).mono ?_
      rintro e w' ⟨_, ho, hq⟩
      obtain ⟨q0, q1, q2, r0, r1, r2, _, _, _, rfl⟩ := ho hfw
      obtain ⟨a1, c1, rfl, l1⟩ := tri_of r0
      obtain ⟨a2, c2, rfl, l2⟩ := tri_of r1
      obtain ⟨a3, c3, rfl, l3⟩ := tri_of r2
      exact ⟨a1, c1, a2, c2, a3, c3, rfl, ⟨l1, l2, l3⟩, hq⟩
  | some x =>
    obtain ⟨wh, c⟩ := x
    refine ⟨false, false, false, false, 0, 0, 0, 0, 0, 0, 0, 0, 0, 0, 0, 0, 0, [], [], [], wh, c, ⟨by simp, by simp, by simp⟩, ?_, ?_⟩
    · intro u
      refine (hP u).mono ?_
      rintro e w' ⟨ho, hq⟩
      rcases ho with ⟨k, hk, hlow, hw, x, hx, rfl⟩ | ⟨hall, _⟩
      · have h := Kr.fw_some R k hk hlow hw
        have hc := hcode k (by omega) hw
        rw [hfw] at h
        obtain ⟨rfl, rfl⟩ := Prod.mk.inj (Option.some.inj h)
        exact ⟨none, 0, none, 0, none, 0, x, rfl, ⟨nil3 _, nil3 _, nil3 _⟩, .inr ⟨hc, hx⟩, hq⟩
      · have := Kr.fw_none R hall
        rw [hfw] at this
        cases this
    · intro u
      refine (hD u).mono ?_
      rintro e w' ⟨ho, _, hq⟩
      have := ho wh c hfw
      subst this
      exact ⟨none, 0, none, 0, none, 0, rfl, ⟨nil3 _, nil3 _, nil3 _⟩, hq⟩
end Kc
end Go.Proofs.YtagpofhencpliaaGreatDoor
namespace Go.Proofs.YtagpofhencpliaaGreatDoor
open Go.RowKit
namespace Kl
open Er (dv LF)
open Kr (rul)
def vL : Nat → List Int
  | 0 => [0]
  | 1 => [9, 9, 5]
  | _ => [0, 5]
def vS : Nat → Nat
  | 0 => 0
  | _ => 1
theorem v_tri {w : World} {L : List Int} {s : Nat} {p : D3.E} (h : Kr.Tri w false L s p) (M q n : Nat) (Z : List Int) (hs : Dm.st (Dm.num L) s = (M, q)) (hz : Dm.dg M = Z) (hn : Z.length = n) : ∃ a c, p = ((false, Value.slice a n c, ((q : Nat) : Int)) : D3.E) ∧ Lst w (.slice a n c) Z := by
  obtain ⟨p1, p2, p3⟩ := p
  obtain ⟨h1, h2, h3, _⟩ := h
  rw [hs] at h2 h3
  simp only at h1 h2 h3
  rw [hz] at h2
  obtain ⟨a, c, h4⟩ := h2.shape
  subst h4
  rw [hn] at h2
  refine ⟨a, c, ?_, h2⟩
  rw [h1, h3, hn, show Dm.cg false (Dm.num L) = false by unfold Dm.cg; split <;> rfl]
theorem live_new (u : World) : Calls Tryz.prog 8 #[.agg #[.string ⟨#[48]⟩, .string ⟨#[57, 57, 46, 53]⟩, .string ⟨#[48, 46, 53]⟩, .int .i64 3, .int .i64 2, .int .i64 1, .int .i64 0, .int .i64 0, .int .i64 6, .int .i64 1]] u fun e w' => ∃ a1 c1 a2 c2 a3 c3, e = .returned (.tuple #[.agg #[.bool false, .slice a1 0 c1, .int .i64 0, .bool false, .slice a2 3 c2, .int .i64 1, .bool false, .slice a3 1 c3, .int .i64 1, .bool false, .int .i64 3, .int .i64 2, .int .i64 1, .int .i64 0, .int .i64 0, .int .i64 6, .int .i64 1], .nilIface]) ∧
      Lst w' (.slice a1 0 c1) [] ∧ Lst w' (.slice a2 3 c2) [9, 9, 5] ∧ Lst w' (.slice a3 1 c3) [5] ∧ Q u w' := by
  have h3 : ∀ {p : Nat → Prop}, p 0 → p 1 → p 2 → ∀ i, i < 3 → p i := by
    intro p a b c i hi
    rcases (show i = 0 ∨ i = 1 ∨ i = 2 by omega) with rfl | rfl | rfl
    · exact a
    · exact b
    · exact c
  refine (Kp.new_any ⟨#[48]⟩ ⟨#[57, 57, 46, 53]⟩ ⟨#[48, 46, 53]⟩ 3 2 1 0 0 6 1 u (fun _ => false) vL vS (fun _ => 0) (fun _ => true) false 1 (-1) (by omega) (h3 (by decide +kernel) (by decide +kernel) (by decide +kernel)) (h3 (by decide +kernel) (by decide +kernel) (by decide +kernel)) (h3 (by decide) (by decide) (by decide)) (h3 (by intro x hx; simp [vL] at hx; omega) (by intro x hx; simp [vL] at hx; omega) (by intro x hx; simp [vL] at hx; omega)) (h3 (by decide) (by decide) (by decide)) (h3 (by decide +kernel) (by decide +kernel) (by decide +kernel)) (by decide +kernel) (by decide +kernel) (by decide +kernel)).mono ?_
  rintro e w' ⟨hh, hq⟩
  rcases hh with ⟨k, hk, _, hf, _⟩ | ⟨_, v, hr, rfl⟩
  · exfalso
    have hk15 : k < 15 := hk
    have hno : ∀ k, k < 15 → ((Kp.rws 3 2 1 0 0 1 (Rm.nm 6).toList.isEmpty (fun _ => 0) (fun _ => true) 1 (-1)).getD k Kp.lk0).2.2 = false := by
      intro k hk
      rcases (show k = 0 ∨ k = 1 ∨ k = 2 ∨ k = 3 ∨ k = 4 ∨ k = 5 ∨ k = 6 ∨ k = 7 ∨ k = 8 ∨ k = 9 ∨ k = 10 ∨ k = 11 ∨ k = 12 ∨ k = 13 ∨ k = 14 by omega) with rfl | rfl | rfl | rfl | rfl | rfl | rfl | rfl | rfl | rfl | rfl | rfl | rfl | rfl | rfl <;> decide +kernel
    rw [hno k hk15] at hf
    cases hf
  · obtain ⟨p0, p1, p2, t0, t1, t2, rfl⟩ := hr
    obtain ⟨a1, c1, rfl, l1⟩ := v_tri t0 0 0 0 [] (by decide +kernel) (by decide +kernel) rfl
    obtain ⟨a2, c2, rfl, l2⟩ := v_tri t1 995 1 3 [9, 9, 5] (by decide +kernel) (by decide +kernel) rfl
    obtain ⟨a3, c3, rfl, l3⟩ := v_tri t2 5 1 1 [5] (by decide +kernel) (by decide +kernel) rfl
    exact ⟨a1, c1, a2, c2, a3, c3, rfl, l1, l2, l3, hq⟩
def vlo : Km.De := ⟨false, 0, 0⟩
def vhi : Km.De := ⟨false, 995, 1⟩
def vst : Km.De := ⟨false, 5, 1⟩
theorem vlo_l : Dm.dg vlo.m = [] := by decide +kernel
theorem vhi_l : Dm.dg vhi.m = [9, 9, 5] := by decide +kernel
theorem vst_l : Dm.dg vst.m = [5] := by decide +kernel
theorem v_ok {L : List Int} (h : Dm.okB L = true) : Dm.okD L := (Dm.okB_iff L).1 h
theorem live_val (u : World) (a1 a2 a3 a : Option Addr) (c1 c2 c3 c : Nat) (h1 : Lst u (.slice a1 0 c1) []) (h2 : Lst u (.slice a2 3 c2) [9, 9, 5]) (hv : Lst u (.slice a 3 c) [7, 2, 5]) :
    Calls Tryz.prog 35 #[.agg #[.bool false, .slice a1 0 c1, .int .i64 0, .bool false, .slice a2 3 c2, .int .i64 1, .bool false, .slice a3 1 c3, .int .i64 1, .bool false, .int .i64 3, .int .i64 2, .int .i64 1, .int .i64 0, .int .i64 0, .int .i64 6, .int .i64 1], .agg #[.bool false, .slice a 3 c, .int .i64 2]] u fun e w' => ∃ ua uc, e = .returned (.tuple #[.agg #[.bool false, .slice ua 2 uc, .int .i64 1], .int .i64 0]) ∧ Lst w' (.slice ua 2 uc) [7, 2] ∧ Q u w' := by
  have h := p_val vlo vhi vst false false a1 a2 a3 a 0 3 1 c1 c2 c3 c 3 2 1 6 3 2 0 0 1 [7, 2, 5] u (by rw [vlo_l]; exact h1) (by rw [vhi_l]; exact h2) hv (by rw [vlo_l]; decide) (by rw [vhi_l]; decide) (by decide) (v_ok (by decide)) (by decide) (by decide) (by decide) (by decide) (by decide) (by decide +kernel) ⟨false, 72, 1⟩ (by kernel_rfl) 2 (by decide +kernel)
  refine h.mono ?_
  rintro e w' ⟨ua, uc, rfl, hl, hq⟩
  rw [show Dm.dg (⟨false, 72, 1⟩ : Km.De).m = [7, 2] by decide +kernel] at hl
  exact ⟨ua, uc, rfl, hl.lst, hq⟩
theorem live_mov (u : World) (a1 a2 a3 a : Option Addr) (c1 c2 c3 c : Nat) (h1 : Lst u (.slice a1 0 c1) []) (h2 : Lst u (.slice a2 3 c2) [9, 9, 5]) (h3 : Lst u (.slice a3 1 c3) [5]) (hv : Lst u (.slice a 1 c) [7]) :
    Calls Tryz.prog 36 #[.agg #[.bool false, .slice a1 0 c1, .int .i64 0, .bool false, .slice a2 3 c2, .int .i64 1, .bool false, .slice a3 1 c3, .int .i64 1, .bool false, .int .i64 3, .int .i64 2, .int .i64 1, .int .i64 0, .int .i64 0, .int .i64 6, .int .i64 1], .agg #[.bool false, .slice a 1 c, .int .i64 0], .int .i64 (-3)] u fun e w' => ∃ ua uc, e = .returned (.tuple #[.agg #[.bool false, .slice ua 2 uc, .int .i64 1], .int .i64 0]) ∧ Lst w' (.slice ua 2 uc) [5, 5] ∧ Q u w' := by
  have h := p_mov vlo vhi vst false false a1 a2 a3 a 0 3 1 c1 c2 c3 c 1 0 1 6 3 2 0 0 1 (-3) [7] u (by rw [vlo_l]; exact h1) (by rw [vhi_l]; exact h2) (by rw [vst_l]; exact h3) hv (by rw [vlo_l]; decide) (by rw [vhi_l]; decide) (by rw [vst_l]; decide) (by decide) (v_ok (by decide)) (by decide) (by decide) (by decide) (by decide) (by decide) (by decide) (by decide) (by decide +kernel) ⟨false, 55, 1⟩ (by kernel_rfl) 2 (by decide +kernel)
  refine h.mono ?_
  rintro e w' ⟨ua, uc, rfl, hl, hq⟩
  rw [show Dm.dg (⟨false, 55, 1⟩ : Km.De).m = [5, 5] by decide +kernel] at hl
  exact ⟨ua, uc, rfl, hl.lst, hq⟩
theorem live_p1 (u : World) (a : Option Addr) (c : Nat) (hv : Lst u (.slice a 2 c) [7, 2]) : Calls Tryz.prog 37 #[.agg #[.bool false, .slice a 2 c, .int .i64 1]] u fun e w' => e = .returned (.string ⟨#[55, 46, 50]⟩) ∧ Q u w' := by
  have h := Ep.print_any false _ 1 [7, 2] u hv (by decide) (v_ok (by decide)) (by decide)
  rw [show Dm.prt false [7, 2] 1 = ⟨#[55, 46, 50]⟩ by decide +kernel] at h
  exact h
theorem live_p2 (u : World) (a : Option Addr) (c : Nat) (hv : Lst u (.slice a 2 c) [5, 5]) : Calls Tryz.prog 37 #[.agg #[.bool false, .slice a 2 c, .int .i64 1]] u fun e w' => e = .returned (.string ⟨#[53, 46, 53]⟩) ∧ Q u w' := by
  have h := Ep.print_any false _ 1 [5, 5] u hv (by decide) (v_ok (by decide)) (by decide)
  rw [show Dm.prt false [5, 5] 1 = ⟨#[53, 46, 53]⟩ by decide +kernel] at h
  exact h
end Kl
end Go.Proofs.YtagpofhencpliaaGreatDoor
