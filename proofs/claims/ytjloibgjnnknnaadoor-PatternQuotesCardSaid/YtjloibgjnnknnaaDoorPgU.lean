/- The statements' own function on pieces; the document's Resolve and the program's. Our own work. -/
import Derived.Deep.Cut
import Derived.Deep.DeepCutAuto
import Derived.Deep.AppendLies
import Derived.Test.YtjloibgjnnknnaaDoorRows
import Derived.Test.YtjloibgjnnknnaaDoorInts
import Derived.Test.YtjloibgjnnknnaaDoorUtfM
import Derived.Test.YtjloibgjnnknnaaDoorUtfG
import Derived.Test.YtjloibgjnnknnaaDoorUtfR
import Derived.Test.YtjloibgjnnknnaaDoorBlk
import Derived.Test.YtjloibgjnnknnaaDoorPcs
import Derived.Test.YtjloibgjnnknnaaDoorPatM
import Derived.Test.YtjloibgjnnknnaaDoorPatS
import Derived.Test.YtjloibgjnnknnaaDoorPatP
import Derived.Test.YtjloibgjnnknnaaDoorPgA
import Derived.Test.YtjloibgjnnknnaaDoorPgC
import Derived.Test.YtjloibgjnnknnaaDoorPgH
import Derived.Test.YtjloibgjnnknnaaDoorPgI
import Derived.Test.YtjloibgjnnknnaaDoorPgL2
import Derived.Deep.QuietTactic
import Derived.BigQuiet
import Derived.Deep.RegionHeld3
set_option linter.unusedVariables false
set_option linter.unusedSimpArgs false
namespace Go.Proofs.YtjloibgjnnknnaaDoor
open Go.RowKit
namespace Pg
open Pt Um Pr

theorem Qeq {u v : World} (h : u = v) : Q u v := by subst h; exact Q.refl u
theorem pushR {T ST : TypeId} (he : Pc.El T ST) {w : World} {B : Nat} {v : Value} {l : List Pc.E} (hown : Pc.OwnE T w B v l) {ops : Array Oper} {o : Oper} {a : Act} {K : Act → World → Prop} {R : Exit → Act → World → Prop} {E : Prop} (hgd : o.guard = none) (s x : Operand)
    (ho : o.op = .call { callee := .builtin .append, args := #[s, x], argTypes := #[ST, ST] })
    {g0 : Nat} (p : Int) (t : ByteArray) (hs : a.eval s = v) (hx : a.eval x = .slice (some ⟨g0, 0, none⟩) 1 1) (c0 : w.cell? ⟨g0, 0, none⟩ = some (.int .i64 p)) (c1 : w.cell? ⟨g0, 1, none⟩ = some (.string t)) (hlen : l.length < 1073741824) (hB : B ≤ w.heap.size)
    (h : ∀ v' w', Pc.OwnE T w' B v' (l ++ [(p, t.data.toList)]) → w.grownBy w' v.ownBlock → K (a.put o.dst v') w') :
    if Region.wanted o (yielded ops a.tmps) = true then Oper.wp Tryd.prog o a w K R else E := by
  obtain ⟨i0, hi, hz0, hz1, hz2⟩ := info_parts he.info
  refine step_append_lies w hgd s x ST ho B T i0 (.agg #[.int .i64 0, .string ByteArray.empty]) 2 24 he.under hi hz0 hz1 hz2 rfl (by decide) v l.length _ hs hown
    ⟨g0, 0, none⟩ 1 1 [.int .i64 p, .string t] hx rfl ?_ ?_ (by decide) ?_ ?_ hB w.heap.size rfl ?_
  · intro j u hj
    match j, hj with
    | 0, hj => simp at hj; subst hj; exact c0
    | 1, hj => simp at hj; subst hj; exact c1
  · intro u hu; simp at hu; rcases hu with rfl | rfl <;> rfl
  · unfold maxLen; omega
  · omega
  · intro g cap w' hown' hg _ _
    refine h _ w' ?_ hg
    unfold Pc.OwnE
    rw [List.length_append, Pc.flat_app]
    exact hown'

set_option maxHeartbeats 2000000 in
set_option maxRecDepth 100000 in
/-- Pieces, as the program has them. -/
theorem of_any (v : Value) (l : List Pc.E) (w : World) (hv : Pc.LstP w v l) (hl : l.length ≤ 1000000) :
    Calls Tryd.prog 10 #[v] w fun e w' => ∃ u, e = .returned u ∧ OwnP w' w.heap.size u l ∧ Q w w' := by
  obtain ⟨n, hn⟩ : ∃ n, l.length = n := ⟨_, rfl⟩
  obtain ⟨a, c, rfl, hc1, hc2⟩ := hv.form0 hn
  have HV := Lib.hid hv
  have HN := Lib.hid hn
  rw [hn] at hl
  clear hv hn
  have HA0 : OwnP w w.heap.size (.slice none 0 0) (l.take 0) := Pc.OwnE.nil _ _ _
  go_enter Tryd.func10, Tryd.ntmps10
  go_wp2_with fail
  go_loopw [3, 4] (fun x i wr => ∃ k : Nat, i = .int .i64 k ∧ k ≤ n ∧ OwnP wr w.heap.size x (l.take k) ∧ Q w wr) (fun _ i _ => n - (intOf i).toNat)
  case atStart => exact ⟨0, rfl, by omega, HA0, Q.refl _⟩
  case round =>
    obtain ⟨k, rfl, hk, HA, hq⟩ := hrel
    by_cases hlt : k < n
    · have hlti : (k : Int) < (n : Int) := by omega
      obtain ⟨g, off, cap, hvv, hg, _, _, c1, c2⟩ := HV.out.cellOf HN.out hlt
      cases hvv
      replace c1 := (World.cell?_of_block (w := w) (hq.block hg)).trans c1
      replace c2 := (World.cell?_of_block (w := w) (hq.block hg)).trans c2
      have hst : l.take (k + 1) = l.take k ++ [l.getD k (0, [])] := by
        have hk' : k < l.length := by rw [HN.out]; exact hlt
        rw [List.take_succ_eq_append_getElem hk', List.getD_eq_getElem?_getD, List.getElem?_eq_getElem hk']; rfl
      have HST := Lib.hid hst
      obtain ⟨x0, hx0⟩ : ∃ x, x = (l.getD k (0, [])).1 := ⟨_, rfl⟩
      obtain ⟨t0, ht0⟩ : ∃ t, t = (⟨(l.getD k (0, [])).2.toArray⟩ : ByteArray) := ⟨_, rfl⟩
      have hxt := Lib.hid (show (x0, t0.data.toList) = l.getD k (0, []) by rw [hx0, ht0])
      rw [← hx0] at c1
      replace c2 : _ = some (Value.string (⟨(l.getD k (0, [])).2.toArray⟩ : ByteArray)) := c2
      rw [← ht0] at c2
      clear hst hx0 ht0
      have hlt2 : (l.take k).length < 1073741824 := by rw [List.length_take]; omega
      have hqs := hq.le
      go_wp2_with (at_builtin; refine Pc.push elP HA rfl _ _ rfl x0 t0 (by rfl) (by rfl) hlt2 hqs ?_)
      intro v' w4 ho4 hg4 hat4
      have hq4 := hq.grown hg4 (fun j h => (HA.lt j h).1)
      have ho5 : OwnP w4 w.heap.size v' (l.take (k + 1)) := by rw [HST.out, ← hxt.out]; exact ho4
      go_wp2_with fail
      exact ⟨⟨k + 1, by go_num, by omega, ho5, hq4⟩, by simp [intOf]; omega⟩
    · have hno : ¬ (k : Int) < (n : Int) := by omega
      rw [List.take_of_length_le (by rw [HN.out]; omega)] at HA
      go_wp2_with fail
      go_ret
      exact ⟨_, rfl, HA, hq⟩

theorem ba_same (R : ByteArray) : (R == R) = true := by
  cases R with | mk d => exact (by show (d == d) = true; exact beq_self_eq_true d)
theorem cnt_step (l : List Pc.E) (q : Int) (j : Nat) (hj : j < l.length) : (l.take (j + 1)).countP (fun p => p.1 == q) = if (l.getD j (0, [])).1 = q then (l.take j).countP (fun p => p.1 == q) + 1 else (l.take j).countP fun p => p.1 == q := by
  rw [List.take_succ_eq_append_getElem hj, List.countP_append, List.getD_eq_getElem?_getD, List.getElem?_eq_getElem hj]
  show _ + List.countP _ [l[j]] = if l[j].1 = q then _ else _
  rw [List.countP_cons, List.countP_nil]
  by_cases h : l[j].1 = q
  · simp [h]
  · simp [h]
abbrev OwnB (w : World) (B : Nat) (v : Value) (l : List Pc.E) : Prop := Pc.OwnE 25 w B v l
/-- The law's own pieces. -/
def own1 (x : Pc.E) : Pc.E := (around x.1 4, (Ur.few ⟨x.2.toArray⟩ 6).data.toList)
def ownL (l : List Pc.E) (k : Nat) : List Pc.E := (l.take k).map own1
theorem ownL_step (l : List Pc.E) (k : Nat) (hk : k < l.length) : ownL l (k + 1) = ownL l k ++ [own1 (l.getD k (0, []))] := by
  unfold ownL
  rw [List.take_succ_eq_append_getElem hk, List.map_append, List.getD_eq_getElem?_getD, List.getElem?_eq_getElem hk]; rfl
theorem ownL_len (l : List Pc.E) (k : Nat) (hk : k ≤ l.length) : (ownL l k).length = k := by unfold ownL; simp; omega
theorem ownL_mem {l : List Pc.E} {k : Nat} {x : Pc.E} (h : x ∈ ownL l k) : 0 ≤ x.1 ∧ x.1 < 4 ∧ x.2.length ≤ 6 := by
  unfold ownL at h
  obtain ⟨y, _, rfl⟩ := List.mem_map.1 h
  have h1 := around_bd y.1 4 (by omega)
  exact ⟨h1.1, h1.2, by show (Ur.few _ 6).data.toList.length ≤ 6; rw [size_list]; exact Ur.few_size _ 6⟩
theorem res_eq (a b c : ByteArray) (l : List Pc.E) (h : ∀ x ∈ l, 0 ≤ x.1 ∧ x.1 < 4 ∧ x.2.length ≤ 6) : l.flatMap (rsP a b c) = resL a b c l := by
  unfold resL
  induction l with
  | nil => rfl
  | cons x r ih =>
    have hx := h x List.mem_cons_self
    rw [List.flatMap_cons, List.flatMap_cons, ih fun y hy => h y (List.mem_cons_of_mem _ hy)]
    congr 1
    unfold rsP resF
    have h4 : x.1 = 0 ∨ x.1 = 1 ∨ x.1 = 2 ∨ x.1 = 3 := by omega
    rcases h4 with h | h | h | h <;> simp [h]
theorem resL_small (a b c : ByteArray) (l : List Pc.E) (ha : a.size ≤ 6) (hb : b.size ≤ 6) (hc : c.size ≤ 6) (h : ∀ x ∈ l, 0 ≤ x.1 ∧ x.1 < 4 ∧ x.2.length ≤ 6) : (resL a b c l).length ≤ 6 * l.length := by
  unfold resL
  induction l with
  | nil => simp
  | cons x r ih =>
    have hx := h x List.mem_cons_self
    have := ih fun y hy => h y (List.mem_cons_of_mem _ hy)
    rw [List.flatMap_cons, List.length_append, List.length_cons]
    have h1 : (resF a b c x).length ≤ 6 := by
      unfold resF
      split
      · split
        · rw [size_list]; exact ha
        · split
          · rw [size_list]; exact hb
          · rw [size_list]; exact hc
      · exact hx.2.2
    omega

set_option maxHeartbeats 4000000 in
set_option maxRecDepth 100000 in
theorem law_resolves (v : Value) (l : List Pc.E) (a b c : ByteArray) (kd : Int) (w : World) (hv : Pc.LstP w v l) (hlm : l.length ≤ maxLen) (hb : ∀ x ∈ l, -9223372036854775808 ≤ x.1 ∧ x.1 ≤ 9223372036854775807 ∧ x.2.length ≤ maxLen)
    (ha1 : a.size ≤ maxLen) (hb1 : b.size ≤ maxLen) (hc1 : c.size ≤ maxLen) (hk1 : -9223372036854775808 ≤ kd ∧ kd ≤ 9223372036854775807) :
    Calls Tryd.prog 3 #[v, .string a, .string b, .string c, .int .i64 kd] w fun e w' => e = .returned (.bool true) ∧ Q w w' := by
  obtain ⟨n, hn⟩ : ∃ n, l.length = n := ⟨_, rfl⟩
  obtain ⟨ad, cp, rfl, hcp1, hcp2⟩ := hv.form0 hn
  have HV := Lib.hid hv
  have HN := Lib.hid hn
  have HB := Lib.hid hb
  rw [hn] at hlm
  clear hv hn hb
  have HA0 : OwnB w w.heap.size (.slice none 0 0) (ownL l 0) := Pc.OwnE.nil _ _ _
  have HFA := Lib.hid (fun u => Ur.few_any a 6 u ha1 (by decide))
  have HFB := Lib.hid (fun u => Ur.few_any b 6 u hb1 (by decide))
  have HFC := Lib.hid (fun u => Ur.few_any c 6 u hc1 (by decide))
  have HKD := Lib.hid (fun u => Ur.around_any kd 4 u hk1.1 hk1.2 (by decide) (by decide))
  have sa := Ur.few_size a 6
  have sb := Ur.few_size b 6
  have sc := Ur.few_size c 6
  obtain ⟨q, hq0⟩ : ∃ q, q = around kd 4 := ⟨_, rfl⟩
  generalize Ur.few a 6 = A at *
  generalize Ur.few b 6 = B at *
  generalize Ur.few c 6 = C at *
  rw [← hq0] at HKD
  clear hq0 ha1 hb1 hc1
  go_enter Tryd.func3, Tryd.ntmps3
  go_wp2_with fail
  go_loopw [11, 12] (fun x i wr => ∃ k : Nat, i = .int .i64 k ∧ k ≤ n ∧ k ≤ 8 ∧ OwnB wr w.heap.size x (ownL l k) ∧ Q w wr) (fun _ i _ => n - (intOf i).toNat)
  case atStart => exact ⟨0, rfl, by omega, by omega, HA0, Q.refl _⟩
  case round =>
    obtain ⟨k, rfl, hkn, hk8, HA, hqw⟩ := hrel
    by_cases hgo : k < n ∧ k < 8
    · obtain ⟨h1, h2⟩ := hgo
      have h1i : (k : Int) < (n : Int) := by omega
      have h2i : (k : Int) < 8 := by omega
      obtain ⟨g, off, cap, hvv, hg, _, _, c1, c2⟩ := HV.out.cellOf HN.out h1
      cases hvv
      have hkl : k < l.length := by rw [HN.out]; exact h1
      have hst := ownL_step l k hkl
      have hll : (ownL l k).length ≤ 8 := by rw [ownL_len l k (by omega)]; exact hk8
      obtain ⟨b1, b2, b3⟩ := HB.out (l.getD k (0, [])) (by rw [List.getD_eq_getElem?_getD, List.getElem?_eq_getElem hkl]; exact List.getElem_mem hkl)
      unfold own1 at hst
      replace c2 : w.cell? _ = some (Value.string (⟨(l.getD k (0, [])).2.toArray⟩ : ByteArray)) := c2
      replace b3 : (⟨(l.getD k (0, [])).2.toArray⟩ : ByteArray).size ≤ maxLen := by rw [← size_list]; exact b3
      obtain ⟨x0, hx0⟩ : ∃ x, x = (l.getD k (0, [])).1 := ⟨_, rfl⟩
      obtain ⟨t0, ht0⟩ : ∃ t, t = (⟨(l.getD k (0, [])).2.toArray⟩ : ByteArray) := ⟨_, rfl⟩
      rw [← hx0] at c1 b1 b2 hst
      rw [← ht0] at c2 b3 hst
      clear hx0 ht0
      have HAR := Lib.hid (fun u => Ur.around_any x0 4 u b1 b2 (by decide) (by decide))
      have HFW := Lib.hid (fun u => Ur.few_any t0 6 u b3 (by decide))
      obtain ⟨K0, hK0⟩ : ∃ K, K = around x0 4 := ⟨_, rfl⟩
      obtain ⟨TX, hTX⟩ : ∃ T, T = Ur.few t0 6 := ⟨_, rfl⟩
      rw [← hK0] at HAR hst
      rw [← hTX] at HFW hst
      have CE0 := Lib.hid (fun u (h : Q w u) => (World.cell?_of_block (w := w) (h.block hg)).trans c1)
      have CE1 := Lib.hid (fun u (h : Q w u) => (World.cell?_of_block (w := w) (h.block hg)).trans c2)
      have HST := Lib.hid hst
      have OWN := Lib.hid HA
      clear c1 c2 b1 b2 b3 hst hK0 hTX HA hg
      go_upto_region 5 with fail
      refine wp_region_held_drew (S := fun u => Q w u) (by kernel_rfl) (by exact hqw.drew) (fun hHeld => ?_)
      have hS : Q w wr.drew := hHeld
      clear hHeld
      have hq : Q wr wr.drew := (Q.refl _).drew
      have OWN := Lib.hid (OWN.out.q hq)
      clear hq
      generalize wr.drew = yR1x0 at *
      refine wpAnyH_take (i := 0) (v := ?vR1x1) rfl (by kernel_rfl) (by kernel_rfl) (by kernel_rfl) (fun _ _ _ h => h) (Or.inl ⟨by rfl, ?hyR1x1⟩) (by exact hS) ?rsR1x1
      case hyR1x1 => (intro uz hSw; (try dsimp only at hSw); go_simp; try with_reducible rfl)
      try simp only [Act.put, List.setIfInBounds_toArray, List.set_cons_zero, List.set_cons_succ]
      refine wpAnyH_take (i := 1) (v := ?vR1x2) rfl (by kernel_rfl) (by kernel_rfl) (by kernel_rfl) (fun _ _ _ h => h) (Or.inl ⟨by rfl, ?hyR1x2⟩) (by exact hS) ?rsR1x2
      case hyR1x2 => (intro uz hSw; (try dsimp only at hSw); go_simp; try with_reducible rfl)
      try simp only [Act.put, List.setIfInBounds_toArray, List.set_cons_zero, List.set_cons_succ]
      refine wpAnyH_take (i := 2) (v := ?vR1x3) rfl (by kernel_rfl) (by kernel_rfl) (by kernel_rfl) (fun _ _ _ h => h) (Or.inl ⟨by rfl, ?hyR1x3⟩) (by exact hS) ?rsR1x3
      case hyR1x3 => (intro uz hSw; (try dsimp only at hSw); go_simp; try with_reducible rfl)
      try simp only [Act.put, List.setIfInBounds_toArray, List.set_cons_zero, List.set_cons_succ]
      refine wpAnyH_take (i := 3) (v := ?vR1x4) rfl (by kernel_rfl) (by kernel_rfl) (by kernel_rfl) (fun _ _ _ h => h) (Or.inl ⟨by rfl, ?hyR1x4⟩) (by exact hS) ?rsR1x4
      case hyR1x4 => (intro uz hSw; (try dsimp only at hSw); go_simp; try with_reducible rfl)
      try simp only [Act.put, List.setIfInBounds_toArray, List.set_cons_zero, List.set_cons_succ]
      refine wpAnyH_take (i := 4) (v := ?vR1x5) rfl (by kernel_rfl) (by kernel_rfl) (by kernel_rfl) (fun _ _ _ h => h) (Or.inl ⟨by rfl, ?hyR1x5⟩) (by exact hS) ?rsR1x5
      case hyR1x5 => (intro uz hSw; (try dsimp only at hSw); go_simp; try with_reducible rfl)
      try simp only [Act.put, List.setIfInBounds_toArray, List.set_cons_zero, List.set_cons_succ]
      refine wpAnyH_take (i := 5) (v := ?vR1x6) rfl (by kernel_rfl) (by kernel_rfl) (by kernel_rfl) (fun _ _ _ h => h) (Or.inl ⟨by rfl, ?hyR1x6⟩) (by exact hS) ?rsR1x6
      case hyR1x6 => (intro uz hSw; (try dsimp only at hSw); have kc0 := CE0.out _ hSw; have kc1 := CE1.out _ hSw; go_simp; try with_reducible rfl)
      try simp only [Act.put, List.setIfInBounds_toArray, List.set_cons_zero, List.set_cons_succ]
      refine wpAnyH_take (i := 7) (v := ?vR1x7) rfl (by kernel_rfl) (by kernel_rfl) (by kernel_rfl) (fun _ _ _ h => h) (Or.inl ⟨by rfl, ?hyR1x7⟩) (by exact hS) ?rsR1x7
      case hyR1x7 => (intro uz hSw; (try dsimp only at hSw); go_simp; try with_reducible rfl)
      try simp only [Act.put, List.setIfInBounds_toArray, List.set_cons_zero, List.set_cons_succ]
      refine wpAnyH_take (i := 8) (v := ?vR1x8) rfl (by kernel_rfl) (by kernel_rfl) (by kernel_rfl) (fun _ _ _ h => h) (Or.inl ⟨by rfl, ?hyR1x8⟩) (by exact hS) ?rsR1x8
      case hyR1x8 => (intro uz hSw; (try dsimp only at hSw); go_simp; try with_reducible rfl)
      try simp only [Act.put, List.setIfInBounds_toArray, List.set_cons_zero, List.set_cons_succ]
      refine wpAnyH_take (i := 9) (v := ?vR1x9) rfl (by kernel_rfl) (by kernel_rfl) (by kernel_rfl) (fun _ _ _ h => h) (Or.inl ⟨by rfl, ?hyR1x9⟩) (by exact hS) ?rsR1x9
      case hyR1x9 => (intro uz hSw; (try dsimp only at hSw); go_simp; try with_reducible rfl)
      try simp only [Act.put, List.setIfInBounds_toArray, List.set_cons_zero, List.set_cons_succ]
      refine wpAnyH_take (i := 10) (v := ?vR1x10) rfl (by kernel_rfl) (by kernel_rfl) (by kernel_rfl) (fun _ _ _ h => h) (Or.inl ⟨by rfl, ?hyR1x10⟩) (by exact hS) ?rsR1x10
      case hyR1x10 => (intro uz hSw; (try dsimp only at hSw); go_simp; try with_reducible rfl)
      try simp only [Act.put, List.setIfInBounds_toArray, List.set_cons_zero, List.set_cons_succ]
      refine wpAnyH_take (i := 11) (v := ?vR1x11) rfl (by kernel_rfl) (by kernel_rfl) (by kernel_rfl) (fun _ _ _ h => h) (Or.inl ⟨by rfl, ?hyR1x11⟩) (by exact hS) ?rsR1x11
      case hyR1x11 => (intro uz hSw; (try dsimp only at hSw); have kc0 := CE0.out _ hSw; have kc1 := CE1.out _ hSw; go_simp; try with_reducible rfl)
      try simp only [Act.put, List.setIfInBounds_toArray, List.set_cons_zero, List.set_cons_succ]
      refine wpAnyH_ready (rs := [6]) (by kernel_rfl) (by simp) ?_
      refine (AllReadyH.cons rfl (fun K hK => ?_) AllReadyH.nil)
      go_simp
      refine (HAR.out _).mono ?_
      rintro e yR1x12 ⟨rfl, hq⟩
      replace hq := Qeq hq
      try (go_wp2_with fail)
      have OWN := Lib.hid (OWN.out.q hq)
      have hS2 := Q.trans hS hq
      refine hK.out _ _ (by exact hS2) (fun hHeld => ?_)
      clear hK K hHeld hS hq
      have hS := hS2
      clear hS2
      try simp only [Act.put, List.setIfInBounds_toArray, List.set_cons_zero, List.set_cons_succ]
      refine wpAnyH_ready (rs := [12]) (by kernel_rfl) (by simp) ?_
      refine (AllReadyH.cons rfl (fun K hK => ?_) AllReadyH.nil)
      go_simp
      refine (HFW.out _).mono ?_
      rintro e yR1x13 ⟨rfl, hq⟩
      replace hq := Qeq hq
      try (go_wp2_with fail)
      have OWN := Lib.hid (OWN.out.q hq)
      have hS2 := Q.trans hS hq
      refine hK.out _ _ (by exact hS2) (fun hHeld => ?_)
      clear hK K hHeld hS hq
      have hS := hS2
      clear hS2
      try simp only [Act.put, List.setIfInBounds_toArray, List.set_cons_zero, List.set_cons_succ]
      refine wpAnyH_take (i := 13) (v := ?vR1x14) rfl (by kernel_rfl) (by kernel_rfl) (by kernel_rfl) (fun _ _ _ h => h) (Or.inl ⟨by rfl, ?hyR1x14⟩) (by exact hS) ?rsR1x14
      case hyR1x14 => (intro uz hSw; (try dsimp only at hSw); go_simp; try with_reducible rfl)
      try simp only [Act.put, List.setIfInBounds_toArray, List.set_cons_zero, List.set_cons_succ]
      refine wpAnyH_ready (rs := [14]) (by kernel_rfl) (by simp) ?_
      refine (AllReadyH.cons rfl (fun K hK => ?_) AllReadyH.nil)
      go_simp
      have hq := (Q.refl yR1x13).alloc (.cells #[.int .i64 K0, .string TX] 25)
      have HBB := Lib.hid (Bk.new yR1x13 25 [.int .i64 K0, .string TX])
      have HW_bb := Lib.hid (Q.le hS)
      have OWN := Lib.hid (OWN.out.q hq)
      have hS2 := Q.trans hS hq
      refine hK.out _ _ (by exact hS2) (fun hHeld => ?_)
      clear hK K hHeld hS hq
      have hS := hS2
      clear hS2
      generalize yR1x13.alloc (.cells #[.int .i64 K0, .string TX] 25) = yR1x15 at *
      generalize yR1x13.heap.size = bb at *
      try simp only [Act.put, List.setIfInBounds_toArray, List.set_cons_zero, List.set_cons_succ]
      refine wpAnyH_ready (rs := [15]) (by kernel_rfl) (by simp) ?_
      refine (AllReadyH.cons rfl (fun K hK => ?_) AllReadyH.nil)
      refine pushR elB OWN.out (by rfl) _ _ (by rfl) K0 TX (by rfl) (by rfl) (HBB.out.cell 0 rfl) (HBB.out.cell 1 rfl) (by omega) (Q.le hS) ?_
      intro v' yR1x16 ho hg
      have hS2 := Q.grown hS hg (fun j h => (OWN.out.lt j h).1)
      refine hK.out _ _ (by exact hS2) (fun hHeld => ?_)
      clear hK K hHeld hS
      have hS := hS2
      clear hS2
      try simp only [Act.put, List.setIfInBounds_toArray, List.set_cons_zero, List.set_cons_succ]
      refine wpAnyH_take (i := 16) (v := ?vR1x17) rfl (by kernel_rfl) (by kernel_rfl) (by kernel_rfl) (fun _ _ _ h => h) (Or.inl ⟨by rfl, ?hyR1x17⟩) (by exact hS) ?rsR1x17
      case hyR1x17 => (intro uz hSw; (try dsimp only at hSw); go_simp; try with_reducible rfl)
      try simp only [Act.put, List.setIfInBounds_toArray, List.set_cons_zero, List.set_cons_succ]
      refine wpAnyH_done (by kernel_rfl) ?_ _
      have ho2 : OwnB yR1x16 w.heap.size v' (ownL l (k + 1)) := by rw [HST.out]; exact ho
      have HO2 := Lib.hid ho2
      have HQ2 := Lib.hid hS
      clear ho ho2 hS hg
      go_wp2_with fail
      exact ⟨⟨k + 1, by go_num, by omega, by omega, HO2.out, HQ2.out⟩, by simp [intOf]; omega⟩
    · have hno : (¬ (k : Int) < (n : Int)) ∨ ((k : Int) < (n : Int) ∧ ¬ (k : Int) < 8) := by omega
      obtain ⟨O, hO⟩ : ∃ O, O = ownL l k := ⟨_, rfl⟩
      have hOl := ownL_len l k (by rw [HN.out]; exact hkn)
      have hOm : ∀ x ∈ O, 0 ≤ x.1 ∧ x.1 < 4 ∧ x.2.length ≤ 6 := fun x hx => ownL_mem (l := l) (k := k) (by rw [← hO]; exact hx)
      rw [← hO] at HA hOl
      clear hO
      obtain ⟨oa, oc, rfl, _, _⟩ := (Pc.OwnE.lst HA).form0 hOl
      have HOA := Lib.hid HA
      have HOL := Lib.hid hOl
      have HQW := Lib.hid hqw
      have HOM := Lib.hid hOm
      have HOF := Lib.hid (fun (u : World) (h : Pc.LstP u (.slice oa k oc) O) => of_any (.slice oa k oc) O u h (by omega))
      have HRE := Lib.hid (res_eq A B C O hOm)
      have hrs := resL_small A B C O sa sb sc hOm
      have HRP := Lib.hid (fun (u : World) (x : Value) (h : Pc.LstP u x O) => (by
        have := resolveP_any x O A B C u h (by omega) (by rw [HRE.out]; omega)
        rwa [HRE.out] at this : Calls Tryd.prog 9 #[x, .string A, .string B, .string C] u fun e w' => e = .returned (.string ⟨(resL A B C O).toArray⟩) ∧ Q u w'))
      have HRR := Lib.hid (fun (u : World) (x : Value) (h : Pc.LstP u x O) => resolve_any x O A B C u h (by omega) (by omega))
      have HCP := Lib.hid (fun (u : World) (x : Value) (h : Pc.LstP u x O) => countP_any x O q u h (by omega))
      obtain ⟨RSS, hRSS⟩ : ∃ R, R = (⟨(resL A B C O).toArray⟩ : ByteArray) := ⟨_, rfl⟩
      rw [← hRSS] at HRP HRR
      obtain ⟨CN, hCN⟩ : ∃ c, c = O.countP fun p => p.1 == q := ⟨_, rfl⟩
      have hcl : CN ≤ k := by rw [hCN, ← hOl]; exact List.countP_le_length
      rw [← hCN] at HCP
      have HCN := Lib.hid hCN
      clear HA hOl hqw hOm HRE hrs hRSS hCN
      rcases hno with hno | ⟨hno, hno2⟩
      all_goals
        go_wp2_with fail
        refine (HKD.out _).mono ?_
        rintro e w1 ⟨rfl, rfl⟩
        go_wp2_with fail
        go_loopw [14, 15] (fun c i wq => ∃ j : Nat, i = .int .i64 j ∧ j ≤ k ∧ c = .int .i64 (((O.take j).countP fun p => p.1 == q : Nat) : Int) ∧ wq = wr) (fun _ i _ => k - (intOf i).toNat)
        case atStart => exact ⟨0, rfl, by omega, rfl, rfl⟩
        case round =>
          obtain ⟨j, rfl, hj, rfl, rfl⟩ := hrel
          by_cases hlt : j < k
          · have hlti : (j : Int) < (k : Int) := by omega
            obtain ⟨g, off, cap, hvv, hg, _, _, c1, c2⟩ := (Pc.OwnE.lst HOA.out).cellOf HOL.out hlt
            cases hvv
            have hjl : j < O.length := by rw [HOL.out]; exact hlt
            have hst := cnt_step O q j hjl
            have hcb : (O.take j).countP (fun p => p.1 == q) ≤ j := Nat.le_trans List.countP_le_length (by rw [List.length_take]; omega)
            obtain ⟨x0, hx0⟩ : ∃ x, x = (O.getD j (0, [])).1 := ⟨_, rfl⟩
            rw [← hx0] at c1 hst
            generalize hcj : (O.take j).countP (fun p => p.1 == q) = cj at *
            have HST := Lib.hid hst
            clear c2 hx0 hst hcj hg
            by_cases hx : x0 = q
            · subst hx
              go_wp2_with fail
              exact ⟨⟨j + 1, by go_num, by omega, by rw [HST.out, if_pos rfl]; go_num, (by first | trivial | rfl)⟩, by simp [intOf]; omega⟩
            · go_wp2_with fail
              exact ⟨⟨j + 1, by go_num, by omega, by rw [HST.out, if_neg hx], (by first | trivial | rfl)⟩, by simp [intOf]; omega⟩
          · have hno3 : ¬ (j : Int) < (k : Int) := by omega
            rw [List.take_of_length_le (by rw [HOL.out]; omega), ← HCN.out]
            go_wp2_with fail
            refine (HFA.out _).mono ?_
            rintro e w2 ⟨rfl, rfl⟩
            go_wp2_with fail
            refine (HFB.out _).mono ?_
            rintro e w3 ⟨rfl, rfl⟩
            go_wp2_with fail
            refine (HFC.out _).mono ?_
            rintro e w4 ⟨rfl, rfl⟩
            go_wp2_with fail
            have hl1 := Pc.OwnE.lst HOA.out
            refine (HOF.out _ hl1).mono ?_
            rintro e w5 ⟨u5, rfl, ho5, hq5⟩
            go_wp2_with fail
            refine (HRP.out _ _ (Pc.OwnE.lst ho5)).mono ?_
            rintro e w6 ⟨rfl, hq6⟩
            have hl2 := hl1.q (hq5.trans hq6)
            go_wp2_with fail
            refine (HRR.out _ _ hl2).mono ?_
            rintro e w7 ⟨rfl, hq7⟩
            have hl3 := hl2.q hq7
            have hrr := ba_same RSS
            go_wp2_with fail
            refine (HOF.out _ hl3).mono ?_
            rintro e w8 ⟨u8, rfl, ho8, hq8⟩
            go_wp2_with fail
            refine (HCP.out _ _ (Pc.OwnE.lst ho8)).mono ?_
            rintro e w9 ⟨rfl, hq9⟩
            have hqz := HQW.out.trans (hq5.trans (hq6.trans (hq7.trans (hq8.trans hq9))))
            go_wp2_with fail
            refine (lives_any _).mono ?_
            rintro e w10 ⟨rfl, hq10⟩
            have hqe := hqz.trans hq10
            go_wp2_with fail
            go_ret
            exact ⟨rfl, hqe⟩
end Pg
end Go.Proofs.YtjloibgjnnknnaaDoor
