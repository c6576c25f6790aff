/- The document's own rounding, by a walk through it. (and more) -/
import Derived.Test.YteljedefbomlgaaR00
import Derived.Test.YteljedefbomlgaaR12
import Derived.Test.YteljedefbomlgaaR17
import Derived.Test.YteljedefbomlgaaR01
import Derived.Test.YteljedefbomlgaaR08
import Derived.Test.YteljedefbomlgaaR10
import Derived.Test.YteljedefbomlgaaR06
import Derived.Test.YteljedefbomlgaaR03
import Derived.Test.YteljedefbomlgaaR05
import Derived.Test.YteljedefbomlgaaR18
import Derived.Test.YteljedefbomlgaaR26
import Derived.Test.YteljedefbomlgaaRows
import Derived.Deep.CutRange
import Derived.Deep.CutBlock
import Derived.Deep.DeepCutAuto
import Derived.Deep.QuietTactic
import Derived.Deep.RegionWith
import Derived.Deep.RegionHeld3
import Derived.BigQuiet
import Derived.Laws.ResultCell
set_option linter.unusedVariables false
set_option linter.unusedSimpArgs false
namespace Go.Proofs.Yteljedefbomlgaa
open Go.RowKit
namespace Rr
open Er (dv cellV LF LF.of LF.nil LF.mono LF.q LF.put LF.shape LF.lst block_cells some_cells block_set wrapI SD SD.q SD.put SD.start SA SA.start SA.q SA.put ret_dv ret_dv2 trim_sh)
theorem lf_lst {w : World} {B : Nat} {v : Value} {xs : List Int} (h : LF w B v xs) : Lst w v xs := h.lst
theorem lf_ne {w : World} {B b : Nat} {v : Value} {xs : List Int} (h : LF w B v xs) (hb : b < B) : ∀ (a : Addr) (n c : Nat), v = .slice (some a) n c → n ≠ 0 → a.block ≠ b := by
  obtain ⟨a', n', c', h0, _, _, h3⟩ := h
  intro a n c hv hn
  rw [h0] at hv
  cases hv
  have := h3 _ rfl hn
  omega
theorem lf_bd {w : World} {B C : Nat} {a : Option Addr} {n c : Nat} {xs : List Int} (h : LF w B (.slice a n c) xs) (hC : C ≤ B) : ∀ ad : Addr, a = some ad → n ≠ 0 → C ≤ ad.block := by
  obtain ⟨a', n', c', h0, _, _, h3⟩ := h
  cases h0
  exact fun ad ha hn => Nat.le_trans hC (h3 ad ha hn)
theorem bd_ne {a : Option Addr} {n c b C : Nat} (h : ∀ ad : Addr, a = some ad → n ≠ 0 → C ≤ ad.block) (hb : b < C) : ∀ (x : Addr) (m d : Nat), (.slice a n c : Value) = .slice (some x) m d → m ≠ 0 → x.block ≠ b := by
  intro x m d e hm
  cases e
  have := h x rfl hm
  omega
theorem old_ne {w : World} {v : Value} {xs : List Int} {b : Nat} (h : Lst w v xs) (hb : w.heap.size ≤ b) : ∀ (x : Addr) (m d : Nat), v = .slice (some x) m d → m ≠ 0 → x.block ≠ b := fun x m d e hm => by
  have := Lst.old h x m d e hm
  omega
theorem bd_lf {w : World} {a : Option Addr} {n c C : Nat} {xs : List Int} (h : Lst w (.slice a n c) xs) (hn : xs.length = n) (hb : ∀ ad : Addr, a = some ad → n ≠ 0 → C ≤ ad.block) : LF w C (.slice a n c) xs := ⟨_, _, _, rfl, h, hn.symm, hb⟩
def S1 (W : World) (b : Nat) (g : Bool) (v : Value) (s : Int) (u : World) : Prop := u.cell? ⟨b, 0, none⟩ = some (.bool g) ∧ (u.cell? ⟨b, 1, none⟩ = some v ∧ (u.cell? ⟨b, 2, none⟩ = some (.int .i64 s) ∧ (Q W u)))
theorem S1.here {W u : World} {b : Nat} {g : Bool} {v : Value} {s : Int} (k : S1 W b g v s u) : Q W u := k.2.2.2
def S2 (W : World) (b1 : Nat) (g1 : Bool) (v1 : Value) (s1 : Int) (b2 : Nat) (g2 : Bool) (v2 : Value) (s2 : Int) (u : World) : Prop := u.cell? ⟨b1, 0, none⟩ = some (.bool g1) ∧ (u.cell? ⟨b1, 1, none⟩ = some v1 ∧ (u.cell? ⟨b1, 2, none⟩ = some (.int .i64 s1) ∧ (u.cell? ⟨b2, 0, none⟩ = some (.bool g2) ∧ (u.cell? ⟨b2, 1, none⟩ = some v2 ∧ (u.cell? ⟨b2, 2, none⟩ = some (.int .i64 s2) ∧ (Q W u))))))
theorem S2.here {W u : World} {b1 b2 : Nat} {g1 g2 : Bool} {v1 v2 : Value} {s1 s2 : Int} (k : S2 W b1 g1 v1 s1 b2 g2 v2 s2 u) : Q W u := k.2.2.2.2.2.2
theorem minus_sh (u : World) (g ng : Bool) (hn : (!g) = ng) (a : Option Addr) (n c : Nat) (s : Int) : Calls Try.prog 71 #[.agg #[.bool g, .slice a n c, .int .i64 s]] u fun e w' => e = .returned (.agg #[.bool ng, .slice a n c, .int .i64 s]) ∧ Q u w' := by
  subst hn
  exact Er.minus_any g (.slice a n c) s u ⟨a, n, c, rfl⟩
def T2 (f : FuncId) (g : Bool) (s : Int) (L : List Int) (h : Bool) (t : Int) (N : List Int) (gr : Bool) (Z : List Int) (sr er : Int) : Prop :=
  ∀ u v x, Lst u v L → Lst u x N → Calls Try.prog f #[.agg #[.bool g, v, .int .i64 s], .agg #[.bool h, x, .int .i64 t]] u fun e w' => ∃ a c, e = .returned (.tuple #[.agg #[.bool gr, .slice a Z.length c, .int .i64 sr], .int .i64 er]) ∧ LF w' u.heap.size (.slice a Z.length c) Z ∧ Q u w'
def T1 (f : FuncId) (g : Bool) (s k : Int) (L : List Int) (gr : Bool) (Z : List Int) (sr er : Int) : Prop :=
  ∀ u v, Lst u v L → Calls Try.prog f #[.agg #[.bool g, v, .int .i64 s], .int .i64 k] u fun e w' => ∃ a c, e = .returned (.tuple #[.agg #[.bool gr, .slice a Z.length c, .int .i64 sr], .int .i64 er]) ∧ LF w' u.heap.size (.slice a Z.length c) Z ∧ Q u w'
def T0 (f : FuncId) (g : Bool) (s k : Int) (L : List Int) (gr : Bool) (Z : List Int) (sr : Int) : Prop :=
  ∀ u v, Lst u v L → Calls Try.prog f #[.agg #[.bool g, v, .int .i64 s], .int .i64 k] u fun e w' => ∃ a c, e = .returned (.agg #[.bool gr, .slice a Z.length c, .int .i64 sr]) ∧ LF w' u.heap.size (.slice a Z.length c) Z ∧ Q u w'
def TC (f : FuncId) (g : Bool) (s : Int) (L : List Int) (h : Bool) (t : Int) (N : List Int) (r : Int) : Prop :=
  ∀ u v x, Lst u v L → Lst u x N → Calls Try.prog f #[.agg #[.bool g, v, .int .i64 s], .agg #[.bool h, x, .int .i64 t]] u fun e w' => e = .returned (.int .i64 r) ∧ Q u w'
def TM (f : FuncId) (g : Bool) (s : Int) (L : List Int) (r : Bool) : Prop :=
  ∀ u v, Lst u v L → Calls Try.prog f #[.agg #[.bool g, v, .int .i64 s]] u fun e w' => e = .returned (.bool r) ∧ Q u w'
set_option maxHeartbeats 6400000 in
set_option maxRecDepth 100000 in
theorem to_walk (g : Bool) (v : Value) (s n : Nat) (m : Int) (L : List Int) (w : World) (hv : Lst w v L) (gl ng nl : Bool) (YL ZS ZU ZF ZT : List Int) (ss sf st : Nat) (gf gt : Bool) (c1 cc : Int) (od U : Bool)
    (hM : TM 24 g s L true) (hN : T0 68 g s n L gl YL n) (hC1 : TC 26 gl n YL g s L c1) (hc1 : c1 ≠ 0) (hO : ∀ u g (k : Nat), Calls Try.prog 69 #[.bool g, .int .i64 k] u fun e w' => ∃ a c, e = .returned (.agg #[.bool g, .slice a 1 c, .int .i64 k]) ∧ Lst w' (.slice a 1 c) [1] ∧ Q u w')
    (hA1 : T2 48 gl n YL g n [1] g ZS ss 0) (hAL : T1 70 g ss n ZS g ZU n 0) (hnl : (!gl) = nl) (hng : (!g) = ng) (hA2 : T2 48 g s L nl n YL gf ZF sf 0) (hA3 : T2 48 g n ZU ng s L gt ZT st 0) (hC2 : TC 26 false sf ZF false st ZT cc)
    (hl1 : YL.length < 9000) (hn : n ≤ 1000) (hm : 0 ≤ m ∧ m ≤ 6) (hcc : cc = -1 ∨ cc = 0 ∨ cc = 1)
    (hod : (YL = [] ∧ od = false) ∨ (0 < YL.length ∧ 0 ≤ YL.getD (YL.length - 1) 0 ∧ od = decide (YL.getD (YL.length - 1) 0 % 2 = 1)))
    (hU : (m = 0 ∧ U = false) ∨ (m = 1 ∧ U = true) ∨ (m = 2 ∧ U = g) ∨ (m = 3 ∧ U = !g) ∨ (m = 4 ∧ U = decide (0 < cc)) ∨ (m = 5 ∧ U = decide (0 ≤ cc)) ∨ (m = 6 ∧ U = (decide (0 < cc) || (decide (cc = 0) && od)))) :
    Calls Try.prog 40 #[dv g v s, .int .i64 n, .int .i64 m] w fun e w' => ∃ x, e = .returned (.tuple #[dv (if U = true then g else gl) x n, .int .i64 0]) ∧ LF w' (w.heap.size + 2) x (if U = true then ZU else YL) ∧ Q w w' := by
  obtain ⟨a0, c0, rfl⟩ := hv.shape
  have HM := Lib.hid hM
  have HN := Lib.hid hN
  have HC1 := Lib.hid hC1
  have HO := Lib.hid hO
  have HA1 := Lib.hid hA1
  have HAL := Lib.hid hAL
  have HA2 := Lib.hid hA2
  have HA3 := Lib.hid hA3
  have HC2 := Lib.hid hC2
  have HLL := Lib.hid hv
  have HL1 := Lib.hid (show YL.length < 9000 from hl1)
  unfold T0 at HN
  unfold T1 at HAL
  unfold T2 at HA1 HA2 HA3
  unfold TM at HM
  unfold TC at HC1 HC2
  obtain ⟨p, hp⟩ : ∃ p, YL.length = p := ⟨_, rfl⟩
  obtain ⟨pu, hpu⟩ : ∃ p, ZU.length = p := ⟨_, rfl⟩
  simp only [hp] at HN
  simp only [hpu] at HAL
  have HP := Lib.hid hp
  have HPU := Lib.hid hpu
  generalize ZS.length = ps at *
  generalize ZF.length = pf at *
  generalize ZT.length = pt at *
  generalize L.length = l at *
  have hm1 : ¬ m < 0 := by omega
  have hm2 : ¬ 6 < m := by omega
  have hn0 : (0 : Int) ≤ (n : Int) := by omega
  have hn1 : (n : Int) ≤ 1000 := by omega
  have hn2 : ¬ 1000 < (n : Int) := by omega
  have hc2 : (c1 == 0) = false := beq_eq_false_iff_ne.2 hc1
  have HNG := Lib.hid hng
  have HNL := Lib.hid hnl
  have HOD := Lib.hid hod
  have HU := Lib.hid hU
  have HCC := Lib.hid hcc
  rw [hp] at hl1
  clear hM hN hC1 hO hA1 hAL hA2 hA3 hC2 hv hp hpu hng hnl hod hU hcc
  go_enter Try.func40, Try.ntmps40
  have Q0 := Lib.hid (show Q w ((w.alloc (.cells #[.bool g, .slice a0 l c0, .int .i64 s] 24)).alloc (.cells #[.bool false, .slice none 0 0, .int .i64 0] 24)) from (((Q.refl w).alloc (.cells #[.bool g, .slice a0 l c0, .int .i64 s] 24)).alloc (.cells #[.bool false, .slice none 0 0, .int .i64 0] 24)))
  have B0_d := Lib.hid (show ((w.alloc (.cells #[.bool g, .slice a0 l c0, .int .i64 s] 24)).alloc (.cells #[.bool false, .slice none 0 0, .int .i64 0] 24)).heap[w.heap.size]? = some (.cells #[.bool g, .slice a0 l c0, .int .i64 s] 24) from heap_alloc2_old _ _ _)
  have B0_R := Lib.hid (show ((w.alloc (.cells #[.bool g, .slice a0 l c0, .int .i64 s] 24)).alloc (.cells #[.bool false, .slice none 0 0, .int .i64 0] 24)).heap[w.heap.size + 1]? = some (.cells #[.bool false, .slice none 0 0, .int .i64 0] 24) from heap_alloc2_new _ _ _)
  unfold dv
  have LL0 := Lib.hid (HLL.out.q Q0.out)
  obtain ⟨k_d0, k_d1, k_d2, _, _, _⟩ := Er.block_cells B0_d.out
  obtain ⟨k_R0, k_R1, k_R2, _, _, _⟩ := Er.block_cells B0_R.out
  go_wp2_with fail
  refine (HM.out _ _ LL0.out).mono ?_
  rintro e z1 ⟨rfl, hq⟩
  clear k_d0 k_d1 k_d2 k_R0 k_R1 k_R2
  have L1_L := Lib.hid (Lst.q LL0.out hq)
  clear LL0
  have B1_d := Lib.hid ((Q.block hq (lt_of_block B0_d.out)).trans B0_d.out)
  clear B0_d
  have B1_R := Lib.hid ((Q.block hq (lt_of_block B0_R.out)).trans B0_R.out)
  clear B0_R
  have Q1 := Lib.hid (Q.trans Q0.out hq)
  clear Q0
  clear hq
  have hsz := Lib.hid (show w.heap.size + 2 ≤ z1.heap.size from lt_of_block B1_R.out)
  obtain ⟨k_d0, k_d1, k_d2, _, _, _⟩ := Er.block_cells B1_d.out
  obtain ⟨k_R0, k_R1, k_R2, _, _, _⟩ := Er.block_cells B1_R.out
  go_wp2_with fail
  refine (HN.out _ _ L1_L.out).mono ?_
  rintro e z2 ⟨a1, c1x, rfl, hx, hq⟩
  clear k_d0 k_d1 k_d2 k_R0 k_R1 k_R2
  have BDY := Lib.hid (Rr.lf_bd hx hsz.out)
  have L3_L := Lib.hid (Lst.q L1_L.out hq)
  clear L1_L
  have B3_d := Lib.hid ((Q.block hq (lt_of_block B1_d.out)).trans B1_d.out)
  clear B1_d
  have B3_R := Lib.hid ((Q.block hq (lt_of_block B1_R.out)).trans B1_R.out)
  clear B1_R
  have Q3 := Lib.hid (Q.trans Q1.out hq)
  clear Q1
  have LY := Lib.hid hx.lst
  clear hx hq hsz
  have O_d_lo := Lib.hid (Nat.lt_of_lt_of_le (lt_of_block B3_d.out) (Nat.le_refl _))
  have O_R_lo := Lib.hid (Nat.lt_of_lt_of_le (lt_of_block B3_R.out) (Nat.le_refl _))
  have hq := (Q.refl z2).alloc (.cells #[.bool gl, .slice a1 p c1x, .int .i64 n] 24)
  have hb := heap_alloc_new z2 (.cells #[.bool gl, .slice a1 p c1x, .int .i64 n] 24)
  have L4_L := Lib.hid (Lst.q L3_L.out hq)
  clear L3_L
  have L4_Y := Lib.hid (Lst.q LY.out hq)
  clear LY
  have B4_d := Lib.hid ((Q.block hq (lt_of_block B3_d.out)).trans B3_d.out)
  clear B3_d
  have B4_R := Lib.hid ((Q.block hq (lt_of_block B3_R.out)).trans B3_R.out)
  clear B3_R
  have Q4 := Lib.hid (Q.trans Q3.out hq)
  clear Q3
  have B4_lo := Lib.hid hb
  clear hb hq
  obtain ⟨k_d0, k_d1, k_d2, _, _, _⟩ := Er.block_cells B4_d.out
  obtain ⟨k_R0, k_R1, k_R2, _, _, _⟩ := Er.block_cells B4_R.out
  obtain ⟨k_lo0, k_lo1, k_lo2, _, _, _⟩ := Er.block_cells B4_lo.out
  go_wp2_with fail
  refine (HC1.out _ _ _ L4_Y.out L4_L.out).mono ?_
  rintro e z5 ⟨rfl, hq⟩
  clear k_d0 k_d1 k_d2 k_R0 k_R1 k_R2 k_lo0 k_lo1 k_lo2
  have L5_L := Lib.hid (Lst.q L4_L.out hq)
  clear L4_L
  have L5_Y := Lib.hid (Lst.q L4_Y.out hq)
  clear L4_Y
  have B5_d := Lib.hid ((Q.block hq (lt_of_block B4_d.out)).trans B4_d.out)
  clear B4_d
  have B5_R := Lib.hid ((Q.block hq (lt_of_block B4_R.out)).trans B4_R.out)
  clear B4_R
  have B5_lo := Lib.hid ((Q.block hq (lt_of_block B4_lo.out)).trans B4_lo.out)
  clear B4_lo
  have Q5 := Lib.hid (Q.trans Q4.out hq)
  clear Q4
  clear hq
  clear HC1
  have SQ := Lib.hid (fun u (q : Q z5 u) => (by
    obtain ⟨y00, y01, y02, _, _, _⟩ := block_cells ((Q.block q (lt_of_block B5_lo.out)).trans B5_lo.out)
    obtain ⟨y10, y11, y12, _, _, _⟩ := block_cells ((Q.block q (lt_of_block B5_d.out)).trans B5_d.out)
    exact ⟨y00, y01, y02, y10, y11, y12, q⟩ : Rr.S2 z5 (z2.heap.size) gl (.slice a1 p c1x) n (w.heap.size) g (.slice a0 l c0) s u))
  go_upto_region 9 with fail
  go_cut [10, 11] (fun p e wx => ∃ b9 a9 c9, p = .pointer (some ⟨b9, 0, none⟩) ∧ e = .int .i64 0 ∧ z5.heap.size ≤ b9 ∧ wx.heap[b9]? = some (.cells #[.bool g, .slice a9 ps c9, .int .i64 ss] 24) ∧ Lst wx (.slice a9 ps c9) ZS ∧ (∀ (a : Addr) (n c : Nat), (.slice a9 ps c9 : Value) = .slice (some a) n c → n ≠ 0 → a.block ≠ b9) ∧ (∀ ad : Addr, a9 = some ad → ps ≠ 0 → z5.heap.size ≤ ad.block) ∧ Q z5 wx)
  case first =>
    refine wp_region_held_drew (S := fun u => Rr.S2 z5 (z2.heap.size) gl (.slice a1 p c1x) n (w.heap.size) g (.slice a0 l c0) s u) (by kernel_rfl) (by exact SQ.out _ ((Q.refl z5).drew)) (fun hHeld => ?_)
    have hS : Rr.S2 z5 (z2.heap.size) gl (.slice a1 p c1x) n (w.heap.size) g (.slice a0 l c0) s z5.drew := hHeld
    clear hHeld
    generalize z5.drew = yT1x0 at hS ⊢
    refine wpAnyH_take (i := 0) (v := ?vT1x1) (by (try simp only [gA, gB, gC]); rfl) (by kernel_rfl) (by kernel_rfl) (by kernel_rfl) (by exact fun _ _ _ h => h) (Or.inl ⟨by rfl, ?hyT1x1⟩) (by exact hS) ?rsT1x1
    case hyT1x1 => (intro w hSw; (try dsimp only at hSw); unfold Rr.S2 at hSw; go_simp; try with_reducible rfl)
    try simp only [Act.put, sA, sB, sC]
    refine wpAnyH_take (i := 1) (v := ?vT1x2) (by (try simp only [gA, gB, gC]); rfl) (by kernel_rfl) (by kernel_rfl) (by kernel_rfl) (by exact fun _ _ _ h => h) (Or.inl ⟨by rfl, ?hyT1x2⟩) (by exact hS) ?rsT1x2
    case hyT1x2 => (intro w hSw; (try dsimp only at hSw); unfold Rr.S2 at hSw; go_simp; try with_reducible rfl)
    try simp only [Act.put, sA, sB, sC]
    refine wpAnyH_take (i := 2) (v := ?vT1x3) (by (try simp only [gA, gB, gC]); rfl) (by kernel_rfl) (by kernel_rfl) (by kernel_rfl) (by exact fun _ _ _ h => h) (Or.inl ⟨by rfl, ?hyT1x3⟩) (by exact hS) ?rsT1x3
    case hyT1x3 => (intro w hSw; (try dsimp only at hSw); unfold Rr.S2 at hSw; go_simp; try with_reducible rfl)
    try simp only [Act.put, sA, sB, sC]
    refine wpAnyH_take (i := 3) (v := ?vT1x4) (by (try simp only [gA, gB, gC]); rfl) (by kernel_rfl) (by kernel_rfl) (by kernel_rfl) (by exact fun _ _ _ h => h) (Or.inl ⟨by rfl, ?hyT1x4⟩) (by exact hS) ?rsT1x4
    case hyT1x4 => (intro w hSw; (try dsimp only at hSw); unfold Rr.S2 at hSw; go_simp; try with_reducible rfl)
    try simp only [Act.put, sA, sB, sC]
    refine wpAnyH_ready (rs := [4, 9]) (by kernel_rfl) (by simp) ?_
    refine (AllReadyH.cons (by (try simp only [gA, gB, gC]); rfl) (fun K hK => ?_) (AllReadyH.cons (by (try simp only [gA, gB, gC]); rfl) (fun K hK => ?_) AllReadyH.nil))
    · go_simp
      refine (HO.out _ _ _).mono ?_
      rintro e yT1x5 ⟨ax, cx, rfl, hx1, hq⟩
      try (go_wp2_with fail)
      have hS2 := SQ.out _ (Q.trans (Rr.S2.here hS) hq)
      refine hK.out _ _ (by exact hS2) (fun hHeld => ?_)
      clear hK K hHeld hS hq
      have hS := hS2
      clear hS2
      try simp only [Act.put, sA, sB, sC]
      refine wpAnyH_ready (rs := [5, 9]) (by kernel_rfl) (by simp) ?_
      refine (AllReadyH.cons (by (try simp only [gA, gB, gC]); rfl) (fun K hK => ?_) (AllReadyH.cons (by (try simp only [gA, gB, gC]); rfl) (fun K hK => ?_) AllReadyH.nil))
      · go_simp
        refine (HA1.out _ _ _ (L5_Y.out.q (Rr.S2.here hS)) hx1).mono ?_
        rintro e yT1x6 ⟨a9, c9, rfl, hx9, hq⟩
        try (go_wp2_with fail)
        have hx1 := Lst.q hx1 hq
        have hlf := hx9
        have hx9 := Rr.lf_lst hlf
        have hbd := Rr.lf_bd hlf (Rr.S2.here hS).le
        clear hlf
        have hS2 := SQ.out _ (Q.trans (Rr.S2.here hS) hq)
        refine hK.out _ _ (by exact hS2) (fun hHeld => ?_)
        clear hK K hHeld hS hq
        have hS := hS2
        clear hS2
        try simp only [Act.put, sA, sB, sC]
        refine wpAnyH_take (i := 6) (v := ?vT1x7) (by (try simp only [gA, gB, gC]); rfl) (by kernel_rfl) (by kernel_rfl) (by kernel_rfl) (by exact fun _ _ _ h => h) (Or.inl ⟨by rfl, ?hyT1x7⟩) (by exact hS) ?rsT1x7
        case hyT1x7 => (intro w hSw; (try dsimp only at hSw); unfold Rr.S2 at hSw; go_simp; try with_reducible rfl)
        try simp only [Act.put, sA, sB, sC]
        refine wpAnyH_take (i := 7) (v := ?vT1x8) (by (try simp only [gA, gB, gC]); rfl) (by kernel_rfl) (by kernel_rfl) (by kernel_rfl) (by exact fun _ _ _ h => h) (Or.inl ⟨by rfl, ?hyT1x8⟩) (by exact hS) ?rsT1x8
        case hyT1x8 => (intro w hSw; (try dsimp only at hSw); unfold Rr.S2 at hSw; go_simp; try with_reducible rfl)
        try simp only [Act.put, sA, sB, sC]
        refine wpAnyH_take (i := 8) (v := ?vT1x9) (by (try simp only [gA, gB, gC]); rfl) (by kernel_rfl) (by kernel_rfl) (by kernel_rfl) (by exact fun _ _ _ h => h) (Or.inl ⟨by rfl, ?hyT1x9⟩) (by exact hS) ?rsT1x9
        case hyT1x9 => (intro w hSw; (try dsimp only at hSw); unfold Rr.S2 at hSw; go_simp; try with_reducible rfl)
        try simp only [Act.put, sA, sB, sC]
        refine wpAnyH_ready (rs := [9]) (by kernel_rfl) (by simp) ?_
        refine (AllReadyH.cons (by (try simp only [gA, gB, gC]); rfl) (fun K hK => ?_) AllReadyH.nil)
        go_simp
        have hq := (Q.refl yT1x6).alloc (.cells #[.bool false, .slice none 0 0, .int .i64 0] 24)
        have hB := heap_alloc_new yT1x6 (.cells #[.bool false, .slice none 0 0, .int .i64 0] 24)
        have hbu : yT1x6.heap.size < (yT1x6.alloc (.cells #[.bool false, .slice none 0 0, .int .i64 0] 24)).heap.size := by rw [World.size_alloc]; omega
        have hWb := (Rr.S2.here hS).le
        have hne_hx1 : ∀ (a : Addr) (n c : Nat), (.slice ax 1 cx : Value) = .slice (some a) n c → n ≠ 0 → a.block ≠ yT1x6.heap.size := fun a n c h1 h2 => Nat.ne_of_lt (Lst.old hx1 a n c h1 h2)
        have hx1 := Lst.q hx1 hq
        have hne_hx9 : ∀ (a : Addr) (n c : Nat), (.slice a9 ps c9 : Value) = .slice (some a) n c → n ≠ 0 → a.block ≠ yT1x6.heap.size := fun a n c h1 h2 => Nat.ne_of_lt (Lst.old hx9 a n c h1 h2)
        have hx9 := Lst.q hx9 hq
        have hS2 := SQ.out _ (Q.trans (Rr.S2.here hS) hq)
        refine hK.out _ _ (by exact hS2) (fun hHeld => ?_)
        clear hK K hHeld hS hq
        have hS := hS2
        clear hS2
        generalize yT1x6.alloc (.cells #[.bool false, .slice none 0 0, .int .i64 0] 24) = yT1x10 at *
        generalize yT1x6.heap.size = b9 at *
        have hne := hne_hx1
        have hne := hne_hx9
        try simp only [Act.put, sA, sB, sC]
        refine wpAnyH_ready (rs := [10]) (by kernel_rfl) (by simp) ?_
        refine (AllReadyH.cons (by (try simp only [gA, gB, gC]); rfl) (fun K hK => ?_) AllReadyH.nil)
        obtain ⟨f0, f1, f2, f3, f4, f5⟩ := Er.block_cells hB
        have hset := Er.block_set (x' := .bool g) (y' := .slice a9 ps c9) (z' := .int .i64 ss) hB
        have hqW := ((Q.setCell (Q.setCell (Q.setCell (Rr.S2.here hS) (ad := ⟨b9, 0, none⟩) hWb (.bool g)) (ad := ⟨b9, 1, none⟩) hWb (.slice a9 ps c9)) (ad := ⟨b9, 2, none⟩) hWb (.int .i64 ss)))
        have hl := Lst.setCell (Lst.setCell (Lst.setCell hx9 (ad := ⟨b9, 0, none⟩) (.bool g) hne) (ad := ⟨b9, 1, none⟩) (.slice a9 ps c9) hne) (ad := ⟨b9, 2, none⟩) (.int .i64 ss) hne
        go_simp
        have hS2 := SQ.out _ hqW
        refine hK.out _ _ (by exact hS2) (fun hHeld => ?_)
        clear hK K hHeld hS
        have hS := hS2
        clear hS2 f0 f1 f2 f3 f4 f5
        try simp only [Act.put, sA, sB, sC]
        refine wpAnyH_take (i := 11) (v := ?vT1x12) (by (try simp only [gA, gB, gC]); rfl) (by kernel_rfl) (by kernel_rfl) (by kernel_rfl) (by exact fun _ _ _ h => h) (Or.inl ⟨by rfl, ?hyT1x12⟩) (by exact hS) ?rsT1x12
        case hyT1x12 => (intro w hSw; (try dsimp only at hSw); unfold Rr.S2 at hSw; go_simp; try with_reducible rfl)
        try simp only [Act.put, sA, sB, sC]
        refine wpAnyH_done (by kernel_rfl) ?_ _
        go_wp2_with fail
        go_meet
        exact ⟨b9, a9, c9, rfl, rfl, hWb, hset, hl, hne, hbd, hqW⟩
      · go_simp
        have hq := (Q.refl yT1x5).alloc (.cells #[.bool false, .slice none 0 0, .int .i64 0] 24)
        have hB := heap_alloc_new yT1x5 (.cells #[.bool false, .slice none 0 0, .int .i64 0] 24)
        have hbu : yT1x5.heap.size < (yT1x5.alloc (.cells #[.bool false, .slice none 0 0, .int .i64 0] 24)).heap.size := by rw [World.size_alloc]; omega
        have hWb := (Rr.S2.here hS).le
        have hne_hx1 : ∀ (a : Addr) (n c : Nat), (.slice ax 1 cx : Value) = .slice (some a) n c → n ≠ 0 → a.block ≠ yT1x5.heap.size := fun a n c h1 h2 => Nat.ne_of_lt (Lst.old hx1 a n c h1 h2)
        have hx1 := Lst.q hx1 hq
        have hS2 := SQ.out _ (Q.trans (Rr.S2.here hS) hq)
        refine hK.out _ _ (by exact hS2) (fun hHeld => ?_)
        clear hK K hHeld hS hq
        have hS := hS2
        clear hS2
        generalize yT1x5.alloc (.cells #[.bool false, .slice none 0 0, .int .i64 0] 24) = yT1x13 at *
        generalize yT1x5.heap.size = b9 at *
        have hne := hne_hx1
        try simp only [Act.put, sA, sB, sC]
        refine wpAnyH_ready (rs := [5]) (by kernel_rfl) (by simp) ?_
        refine (AllReadyH.cons (by (try simp only [gA, gB, gC]); rfl) (fun K hK => ?_) AllReadyH.nil)
        go_simp
        refine (HA1.out _ _ _ (L5_Y.out.q (Rr.S2.here hS)) hx1).mono ?_
        rintro e yT1x14 ⟨a9, c9, rfl, hx9, hq⟩
        try (go_wp2_with fail)
        have hx1 := Lst.q hx1 hq
        have hB := (Q.block hq (lt_of_block hB)).trans hB
        have hlf := hx9
        have hx9 := Rr.lf_lst hlf
        have hbd := Rr.lf_bd hlf (Rr.S2.here hS).le
        have hne : ∀ (a : Addr) (n c : Nat), (.slice a9 ps c9 : Value) = .slice (some a) n c → n ≠ 0 → a.block ≠ b9 := Rr.lf_ne hlf hbu
        clear hlf
        have hS2 := SQ.out _ (Q.trans (Rr.S2.here hS) hq)
        have hbu := Nat.lt_of_lt_of_le hbu hq.le
        refine hK.out _ _ (by exact hS2) (fun hHeld => ?_)
        clear hK K hHeld hS hq
        have hS := hS2
        clear hS2
        try simp only [Act.put, sA, sB, sC]
        refine wpAnyH_take (i := 6) (v := ?vT1x15) (by (try simp only [gA, gB, gC]); rfl) (by kernel_rfl) (by kernel_rfl) (by kernel_rfl) (by exact fun _ _ _ h => h) (Or.inl ⟨by rfl, ?hyT1x15⟩) (by exact hS) ?rsT1x15
        case hyT1x15 => (intro w hSw; (try dsimp only at hSw); unfold Rr.S2 at hSw; go_simp; try with_reducible rfl)
        try simp only [Act.put, sA, sB, sC]
        refine wpAnyH_take (i := 7) (v := ?vT1x16) (by (try simp only [gA, gB, gC]); rfl) (by kernel_rfl) (by kernel_rfl) (by kernel_rfl) (by exact fun _ _ _ h => h) (Or.inl ⟨by rfl, ?hyT1x16⟩) (by exact hS) ?rsT1x16
        case hyT1x16 => (intro w hSw; (try dsimp only at hSw); unfold Rr.S2 at hSw; go_simp; try with_reducible rfl)
        try simp only [Act.put, sA, sB, sC]
        refine wpAnyH_take (i := 8) (v := ?vT1x17) (by (try simp only [gA, gB, gC]); rfl) (by kernel_rfl) (by kernel_rfl) (by kernel_rfl) (by exact fun _ _ _ h => h) (Or.inl ⟨by rfl, ?hyT1x17⟩) (by exact hS) ?rsT1x17
        case hyT1x17 => (intro w hSw; (try dsimp only at hSw); unfold Rr.S2 at hSw; go_simp; try with_reducible rfl)
        try simp only [Act.put, sA, sB, sC]
        refine wpAnyH_ready (rs := [10]) (by kernel_rfl) (by simp) ?_
        refine (AllReadyH.cons (by (try simp only [gA, gB, gC]); rfl) (fun K hK => ?_) AllReadyH.nil)
        obtain ⟨f0, f1, f2, f3, f4, f5⟩ := Er.block_cells hB
        have hset := Er.block_set (x' := .bool g) (y' := .slice a9 ps c9) (z' := .int .i64 ss) hB
        have hqW := ((Q.setCell (Q.setCell (Q.setCell (Rr.S2.here hS) (ad := ⟨b9, 0, none⟩) hWb (.bool g)) (ad := ⟨b9, 1, none⟩) hWb (.slice a9 ps c9)) (ad := ⟨b9, 2, none⟩) hWb (.int .i64 ss)))
        have hl := Lst.setCell (Lst.setCell (Lst.setCell hx9 (ad := ⟨b9, 0, none⟩) (.bool g) hne) (ad := ⟨b9, 1, none⟩) (.slice a9 ps c9) hne) (ad := ⟨b9, 2, none⟩) (.int .i64 ss) hne
        go_simp
        have hS2 := SQ.out _ hqW
        refine hK.out _ _ (by exact hS2) (fun hHeld => ?_)
        clear hK K hHeld hS
        have hS := hS2
        clear hS2 f0 f1 f2 f3 f4 f5
        try simp only [Act.put, sA, sB, sC]
        refine wpAnyH_take (i := 11) (v := ?vT1x19) (by (try simp only [gA, gB, gC]); rfl) (by kernel_rfl) (by kernel_rfl) (by kernel_rfl) (by exact fun _ _ _ h => h) (Or.inl ⟨by rfl, ?hyT1x19⟩) (by exact hS) ?rsT1x19
        case hyT1x19 => (intro w hSw; (try dsimp only at hSw); unfold Rr.S2 at hSw; go_simp; try with_reducible rfl)
        try simp only [Act.put, sA, sB, sC]
        refine wpAnyH_done (by kernel_rfl) ?_ _
        go_wp2_with fail
        go_meet
        exact ⟨b9, a9, c9, rfl, rfl, hWb, hset, hl, hne, hbd, hqW⟩
    · go_simp
      have hq := (Q.refl yT1x0).alloc (.cells #[.bool false, .slice none 0 0, .int .i64 0] 24)
      have hB := heap_alloc_new yT1x0 (.cells #[.bool false, .slice none 0 0, .int .i64 0] 24)
      have hbu : yT1x0.heap.size < (yT1x0.alloc (.cells #[.bool false, .slice none 0 0, .int .i64 0] 24)).heap.size := by rw [World.size_alloc]; omega
      have hWb := (Rr.S2.here hS).le
      have hS2 := SQ.out _ (Q.trans (Rr.S2.here hS) hq)
      refine hK.out _ _ (by exact hS2) (fun hHeld => ?_)
      clear hK K hHeld hS hq
      have hS := hS2
      clear hS2
      generalize yT1x0.alloc (.cells #[.bool false, .slice none 0 0, .int .i64 0] 24) = yT1x20 at *
      generalize yT1x0.heap.size = b9 at *
      try simp only [Act.put, sA, sB, sC]
      refine wpAnyH_ready (rs := [4]) (by kernel_rfl) (by simp) ?_
      refine (AllReadyH.cons (by (try simp only [gA, gB, gC]); rfl) (fun K hK => ?_) AllReadyH.nil)
      go_simp
      refine (HO.out _ _ _).mono ?_
      rintro e yT1x21 ⟨ax, cx, rfl, hx1, hq⟩
      try (go_wp2_with fail)
      have hB := (Q.block hq (lt_of_block hB)).trans hB
      have hS2 := SQ.out _ (Q.trans (Rr.S2.here hS) hq)
      have hbu := Nat.lt_of_lt_of_le hbu hq.le
      refine hK.out _ _ (by exact hS2) (fun hHeld => ?_)
      clear hK K hHeld hS hq
      have hS := hS2
      clear hS2
      try simp only [Act.put, sA, sB, sC]
      refine wpAnyH_ready (rs := [5]) (by kernel_rfl) (by simp) ?_
      refine (AllReadyH.cons (by (try simp only [gA, gB, gC]); rfl) (fun K hK => ?_) AllReadyH.nil)
      go_simp
      refine (HA1.out _ _ _ (L5_Y.out.q (Rr.S2.here hS)) hx1).mono ?_
      rintro e yT1x22 ⟨a9, c9, rfl, hx9, hq⟩
      try (go_wp2_with fail)
      have hx1 := Lst.q hx1 hq
      have hB := (Q.block hq (lt_of_block hB)).trans hB
      have hlf := hx9
      have hx9 := Rr.lf_lst hlf
      have hbd := Rr.lf_bd hlf (Rr.S2.here hS).le
      have hne : ∀ (a : Addr) (n c : Nat), (.slice a9 ps c9 : Value) = .slice (some a) n c → n ≠ 0 → a.block ≠ b9 := Rr.lf_ne hlf hbu
      clear hlf
      have hS2 := SQ.out _ (Q.trans (Rr.S2.here hS) hq)
      have hbu := Nat.lt_of_lt_of_le hbu hq.le
      refine hK.out _ _ (by exact hS2) (fun hHeld => ?_)
      clear hK K hHeld hS hq
      have hS := hS2
      clear hS2
      try simp only [Act.put, sA, sB, sC]
      refine wpAnyH_take (i := 6) (v := ?vT1x23) (by (try simp only [gA, gB, gC]); rfl) (by kernel_rfl) (by kernel_rfl) (by kernel_rfl) (by exact fun _ _ _ h => h) (Or.inl ⟨by rfl, ?hyT1x23⟩) (by exact hS) ?rsT1x23
      case hyT1x23 => (intro w hSw; (try dsimp only at hSw); unfold Rr.S2 at hSw; go_simp; try with_reducible rfl)
      try simp only [Act.put, sA, sB, sC]
      refine wpAnyH_take (i := 7) (v := ?vT1x24) (by (try simp only [gA, gB, gC]); rfl) (by kernel_rfl) (by kernel_rfl) (by kernel_rfl) (by exact fun _ _ _ h => h) (Or.inl ⟨by rfl, ?hyT1x24⟩) (by exact hS) ?rsT1x24
      case hyT1x24 => (intro w hSw; (try dsimp only at hSw); unfold Rr.S2 at hSw; go_simp; try with_reducible rfl)
      try simp only [Act.put, sA, sB, sC]
      refine wpAnyH_take (i := 8) (v := ?vT1x25) (by (try simp only [gA, gB, gC]); rfl) (by kernel_rfl) (by kernel_rfl) (by kernel_rfl) (by exact fun _ _ _ h => h) (Or.inl ⟨by rfl, ?hyT1x25⟩) (by exact hS) ?rsT1x25
      case hyT1x25 => (intro w hSw; (try dsimp only at hSw); unfold Rr.S2 at hSw; go_simp; try with_reducible rfl)
      try simp only [Act.put, sA, sB, sC]
      refine wpAnyH_ready (rs := [10]) (by kernel_rfl) (by simp) ?_
      refine (AllReadyH.cons (by (try simp only [gA, gB, gC]); rfl) (fun K hK => ?_) AllReadyH.nil)
      obtain ⟨f0, f1, f2, f3, f4, f5⟩ := Er.block_cells hB
      have hset := Er.block_set (x' := .bool g) (y' := .slice a9 ps c9) (z' := .int .i64 ss) hB
      have hqW := ((Q.setCell (Q.setCell (Q.setCell (Rr.S2.here hS) (ad := ⟨b9, 0, none⟩) hWb (.bool g)) (ad := ⟨b9, 1, none⟩) hWb (.slice a9 ps c9)) (ad := ⟨b9, 2, none⟩) hWb (.int .i64 ss)))
      have hl := Lst.setCell (Lst.setCell (Lst.setCell hx9 (ad := ⟨b9, 0, none⟩) (.bool g) hne) (ad := ⟨b9, 1, none⟩) (.slice a9 ps c9) hne) (ad := ⟨b9, 2, none⟩) (.int .i64 ss) hne
      go_simp
      have hS2 := SQ.out _ hqW
      refine hK.out _ _ (by exact hS2) (fun hHeld => ?_)
      clear hK K hHeld hS
      have hS := hS2
      clear hS2 f0 f1 f2 f3 f4 f5
      try simp only [Act.put, sA, sB, sC]
      refine wpAnyH_take (i := 11) (v := ?vT1x27) (by (try simp only [gA, gB, gC]); rfl) (by kernel_rfl) (by kernel_rfl) (by kernel_rfl) (by exact fun _ _ _ h => h) (Or.inl ⟨by rfl, ?hyT1x27⟩) (by exact hS) ?rsT1x27
      case hyT1x27 => (intro w hSw; (try dsimp only at hSw); unfold Rr.S2 at hSw; go_simp; try with_reducible rfl)
      try simp only [Act.put, sA, sB, sC]
      refine wpAnyH_done (by kernel_rfl) ?_ _
      go_wp2_with fail
      go_meet
      exact ⟨b9, a9, c9, rfl, rfl, hWb, hset, hl, hne, hbd, hqW⟩
  case rest =>
    obtain ⟨b10, a10, c10, rfl, rfl, hwb10, hb10, hl10, hne10, hbd10, hqc⟩ := hcut
    obtain ⟨w10, hw10⟩ : ∃ x, x = wc := ⟨_, rfl⟩
    subst hw10
    have HB10 := Lib.hid hb10
    have LZ10 := Lib.hid hl10
    have NE10 := Lib.hid hne10
    have BD10 := Lib.hid hbd10
    have O_d_b10 := Lib.hid (Nat.lt_of_lt_of_le (lt_of_block B5_d.out) hwb10)
    have O_R_b10 := Lib.hid (Nat.lt_of_lt_of_le (lt_of_block B5_R.out) hwb10)
    have O_lo_b10 := Lib.hid (Nat.lt_of_lt_of_le (lt_of_block B5_lo.out) hwb10)
    have N_L_b10 := Lib.hid (Rr.old_ne L5_L.out hwb10)
    have N_Y_b10 := Lib.hid (Rr.old_ne L5_Y.out hwb10)
    have N_Z10_d := Lib.hid (Rr.bd_ne (c := c10) BD10.out (lt_of_block B5_d.out))
    have N_Z10_R := Lib.hid (Rr.bd_ne (c := c10) BD10.out (lt_of_block B5_R.out))
    have N_Z10_lo := Lib.hid (Rr.bd_ne (c := c10) BD10.out (lt_of_block B5_lo.out))
    have WB10 := Lib.hid (Nat.le_trans Q5.out.le hwb10)
    clear SQ hb10 hl10 hne10 hbd10 hwb10
    have L6_L := Lib.hid (Lst.q L5_L.out hqc)
    clear L5_L
    have L6_Y := Lib.hid (Lst.q L5_Y.out hqc)
    clear L5_Y
    have B6_d := Lib.hid ((Q.block hqc (lt_of_block B5_d.out)).trans B5_d.out)
    clear B5_d
    have B6_R := Lib.hid ((Q.block hqc (lt_of_block B5_R.out)).trans B5_R.out)
    clear B5_R
    have B6_lo := Lib.hid ((Q.block hqc (lt_of_block B5_lo.out)).trans B5_lo.out)
    clear B5_lo
    have Q6 := Lib.hid (Q.trans Q5.out hqc)
    clear Q5
    clear hqc
    have hsz := Lib.hid (show w.heap.size + 2 ≤ w10.heap.size from lt_of_block B6_R.out)
    obtain ⟨k_d0, k_d1, k_d2, _, _, _⟩ := Er.block_cells B6_d.out
    obtain ⟨k_R0, k_R1, k_R2, _, _, _⟩ := Er.block_cells B6_R.out
    obtain ⟨k_lo0, k_lo1, k_lo2, _, _, _⟩ := Er.block_cells B6_lo.out
    obtain ⟨k_b100, k_b101, k_b102, _, _, _⟩ := Er.block_cells HB10.out
    go_wp2_with fail
    refine (HAL.out _ _ LZ10.out).mono ?_
    rintro e z12 ⟨a12, c12, rfl, hx, hq⟩
    clear k_d0 k_d1 k_d2 k_R0 k_R1 k_R2 k_lo0 k_lo1 k_lo2 k_b100 k_b101 k_b102
    have BDU := Lib.hid (Rr.lf_bd hx hsz.out)
    have L8_L := Lib.hid (Lst.q L6_L.out hq)
    clear L6_L
    have L8_Y := Lib.hid (Lst.q L6_Y.out hq)
    clear L6_Y
    have L8_Z10 := Lib.hid (Lst.q LZ10.out hq)
    clear LZ10
    have B8_d := Lib.hid ((Q.block hq (lt_of_block B6_d.out)).trans B6_d.out)
    clear B6_d
    have B8_R := Lib.hid ((Q.block hq (lt_of_block B6_R.out)).trans B6_R.out)
    clear B6_R
    have B8_lo := Lib.hid ((Q.block hq (lt_of_block B6_lo.out)).trans B6_lo.out)
    clear B6_lo
    have B8_b10 := Lib.hid ((Q.block hq (lt_of_block HB10.out)).trans HB10.out)
    clear HB10
    have Q8 := Lib.hid (Q.trans Q6.out hq)
    clear Q6
    have LU := Lib.hid hx.lst
    clear hx hq hsz
    have O_d_up := Lib.hid (Nat.lt_of_lt_of_le (lt_of_block B8_d.out) (Nat.le_refl _))
    have O_R_up := Lib.hid (Nat.lt_of_lt_of_le (lt_of_block B8_R.out) (Nat.le_refl _))
    have O_lo_up := Lib.hid (Nat.lt_of_lt_of_le (lt_of_block B8_lo.out) (Nat.le_refl _))
    have O_b10_up := Lib.hid (Nat.lt_of_lt_of_le (lt_of_block B8_b10.out) (Nat.le_refl _))
    have hq := (Q.refl z12).alloc (.cells #[.bool g, .slice a12 pu c12, .int .i64 n] 24)
    have hb := heap_alloc_new z12 (.cells #[.bool g, .slice a12 pu c12, .int .i64 n] 24)
    have L9_L := Lib.hid (Lst.q L8_L.out hq)
    clear L8_L
    have L9_Y := Lib.hid (Lst.q L8_Y.out hq)
    clear L8_Y
    have L9_Z10 := Lib.hid (Lst.q L8_Z10.out hq)
    clear L8_Z10
    have L9_U := Lib.hid (Lst.q LU.out hq)
    clear LU
    have B9_d := Lib.hid ((Q.block hq (lt_of_block B8_d.out)).trans B8_d.out)
    clear B8_d
    have B9_R := Lib.hid ((Q.block hq (lt_of_block B8_R.out)).trans B8_R.out)
    clear B8_R
    have B9_lo := Lib.hid ((Q.block hq (lt_of_block B8_lo.out)).trans B8_lo.out)
    clear B8_lo
    have B9_b10 := Lib.hid ((Q.block hq (lt_of_block B8_b10.out)).trans B8_b10.out)
    clear B8_b10
    have Q9 := Lib.hid (Q.trans Q8.out hq)
    clear Q8
    have B9_up := Lib.hid hb
    clear hb hq
    have SQ := Lib.hid (fun u (q : Q (z12.alloc (.cells #[.bool g, .slice a12 pu c12, .int .i64 n] 24)) u) => (by
      obtain ⟨y00, y01, y02, _, _, _⟩ := block_cells ((Q.block q (lt_of_block B9_d.out)).trans B9_d.out)
      obtain ⟨y10, y11, y12, _, _, _⟩ := block_cells ((Q.block q (lt_of_block B9_lo.out)).trans B9_lo.out)
      exact ⟨y00, y01, y02, y10, y11, y12, q⟩ : Rr.S2 (z12.alloc (.cells #[.bool g, .slice a12 pu c12, .int .i64 n] 24)) (w.heap.size) g (.slice a0 l c0) s (z2.heap.size) gl (.slice a1 p c1x) n u))
    go_upto_region 11 with fail
    go_cut [14, 15] (fun p e wx => ∃ b9 a9 c9, p = .pointer (some ⟨b9, 0, none⟩) ∧ e = .int .i64 0 ∧ (z12.alloc (.cells #[.bool g, .slice a12 pu c12, .int .i64 n] 24)).heap.size ≤ b9 ∧ wx.heap[b9]? = some (.cells #[.bool gf, .slice a9 pf c9, .int .i64 sf] 24) ∧ Lst wx (.slice a9 pf c9) ZF ∧ (∀ (a : Addr) (n c : Nat), (.slice a9 pf c9 : Value) = .slice (some a) n c → n ≠ 0 → a.block ≠ b9) ∧ (∀ ad : Addr, a9 = some ad → pf ≠ 0 → (z12.alloc (.cells #[.bool g, .slice a12 pu c12, .int .i64 n] 24)).heap.size ≤ ad.block) ∧ Q (z12.alloc (.cells #[.bool g, .slice a12 pu c12, .int .i64 n] 24)) wx)
    case first =>
      refine wp_region_held_drew (S := fun u => Rr.S2 (z12.alloc (.cells #[.bool g, .slice a12 pu c12, .int .i64 n] 24)) (w.heap.size) g (.slice a0 l c0) s (z2.heap.size) gl (.slice a1 p c1x) n u) (by kernel_rfl) (by exact SQ.out _ ((Q.refl (z12.alloc (.cells #[.bool g, .slice a12 pu c12, .int .i64 n] 24))).drew)) (fun hHeld => ?_)
      have hS : Rr.S2 (z12.alloc (.cells #[.bool g, .slice a12 pu c12, .int .i64 n] 24)) (w.heap.size) g (.slice a0 l c0) s (z2.heap.size) gl (.slice a1 p c1x) n (z12.alloc (.cells #[.bool g, .slice a12 pu c12, .int .i64 n] 24)).drew := hHeld
      clear hHeld
      generalize (z12.alloc (.cells #[.bool g, .slice a12 pu c12, .int .i64 n] 24)).drew = yT2x0 at hS ⊢
      refine wpAnyH_take (i := 0) (v := ?vT2x1) (by (try simp only [gA, gB, gC]); rfl) (by kernel_rfl) (by kernel_rfl) (by kernel_rfl) (by exact fun _ _ _ h => h) (Or.inl ⟨by rfl, ?hyT2x1⟩) (by exact hS) ?rsT2x1
      case hyT2x1 => (intro w hSw; (try dsimp only at hSw); unfold Rr.S2 at hSw; go_simp; try with_reducible rfl)
      try simp only [Act.put, sA, sB, sC]
      refine wpAnyH_take (i := 1) (v := ?vT2x2) (by (try simp only [gA, gB, gC]); rfl) (by kernel_rfl) (by kernel_rfl) (by kernel_rfl) (by exact fun _ _ _ h => h) (Or.inl ⟨by rfl, ?hyT2x2⟩) (by exact hS) ?rsT2x2
      case hyT2x2 => (intro w hSw; (try dsimp only at hSw); unfold Rr.S2 at hSw; go_simp; try with_reducible rfl)
      try simp only [Act.put, sA, sB, sC]
      refine wpAnyH_ready (rs := [2, 7]) (by kernel_rfl) (by simp) ?_
      refine (AllReadyH.cons (by (try simp only [gA, gB, gC]); rfl) (fun K hK => ?_) (AllReadyH.cons (by (try simp only [gA, gB, gC]); rfl) (fun K hK => ?_) AllReadyH.nil))
      · go_simp
        refine (Rr.minus_sh _ _ _ HNL.out _ _ _ _).mono ?_
        rintro e yT2x3 ⟨rfl, hq⟩
        try (go_wp2_with fail)
        have hS2 := SQ.out _ (Q.trans (Rr.S2.here hS) hq)
        refine hK.out _ _ (by exact hS2) (fun hHeld => ?_)
        clear hK K hHeld hS hq
        have hS := hS2
        clear hS2
        try simp only [Act.put, sA, sB, sC]
        refine wpAnyH_ready (rs := [3, 7]) (by kernel_rfl) (by simp) ?_
        refine (AllReadyH.cons (by (try simp only [gA, gB, gC]); rfl) (fun K hK => ?_) (AllReadyH.cons (by (try simp only [gA, gB, gC]); rfl) (fun K hK => ?_) AllReadyH.nil))
        · go_simp
          refine (HA2.out _ _ _ (L9_L.out.q (Rr.S2.here hS)) (L9_Y.out.q (Rr.S2.here hS))).mono ?_
          rintro e yT2x4 ⟨a9, c9, rfl, hx9, hq⟩
          try (go_wp2_with fail)
          have hlf := hx9
          have hx9 := Rr.lf_lst hlf
          have hbd := Rr.lf_bd hlf (Rr.S2.here hS).le
          clear hlf
          have hS2 := SQ.out _ (Q.trans (Rr.S2.here hS) hq)
          refine hK.out _ _ (by exact hS2) (fun hHeld => ?_)
          clear hK K hHeld hS hq
          have hS := hS2
          clear hS2
          try simp only [Act.put, sA, sB, sC]
          refine wpAnyH_take (i := 4) (v := ?vT2x5) (by (try simp only [gA, gB, gC]); rfl) (by kernel_rfl) (by kernel_rfl) (by kernel_rfl) (by exact fun _ _ _ h => h) (Or.inl ⟨by rfl, ?hyT2x5⟩) (by exact hS) ?rsT2x5
          case hyT2x5 => (intro w hSw; (try dsimp only at hSw); unfold Rr.S2 at hSw; go_simp; try with_reducible rfl)
          try simp only [Act.put, sA, sB, sC]
          refine wpAnyH_take (i := 5) (v := ?vT2x6) (by (try simp only [gA, gB, gC]); rfl) (by kernel_rfl) (by kernel_rfl) (by kernel_rfl) (by exact fun _ _ _ h => h) (Or.inl ⟨by rfl, ?hyT2x6⟩) (by exact hS) ?rsT2x6
          case hyT2x6 => (intro w hSw; (try dsimp only at hSw); unfold Rr.S2 at hSw; go_simp; try with_reducible rfl)
          try simp only [Act.put, sA, sB, sC]
          refine wpAnyH_take (i := 6) (v := ?vT2x7) (by (try simp only [gA, gB, gC]); rfl) (by kernel_rfl) (by kernel_rfl) (by kernel_rfl) (by exact fun _ _ _ h => h) (Or.inl ⟨by rfl, ?hyT2x7⟩) (by exact hS) ?rsT2x7
          case hyT2x7 => (intro w hSw; (try dsimp only at hSw); unfold Rr.S2 at hSw; go_simp; try with_reducible rfl)
          try simp only [Act.put, sA, sB, sC]
          refine wpAnyH_ready (rs := [7]) (by kernel_rfl) (by simp) ?_
          refine (AllReadyH.cons (by (try simp only [gA, gB, gC]); rfl) (fun K hK => ?_) AllReadyH.nil)
          go_simp
          have hq := (Q.refl yT2x4).alloc (.cells #[.bool false, .slice none 0 0, .int .i64 0] 24)
          have hB := heap_alloc_new yT2x4 (.cells #[.bool false, .slice none 0 0, .int .i64 0] 24)
          have hbu : yT2x4.heap.size < (yT2x4.alloc (.cells #[.bool false, .slice none 0 0, .int .i64 0] 24)).heap.size := by rw [World.size_alloc]; omega
          have hWb := (Rr.S2.here hS).le
          have hne_hx9 : ∀ (a : Addr) (n c : Nat), (.slice a9 pf c9 : Value) = .slice (some a) n c → n ≠ 0 → a.block ≠ yT2x4.heap.size := fun a n c h1 h2 => Nat.ne_of_lt (Lst.old hx9 a n c h1 h2)
          have hx9 := Lst.q hx9 hq
          have hS2 := SQ.out _ (Q.trans (Rr.S2.here hS) hq)
          refine hK.out _ _ (by exact hS2) (fun hHeld => ?_)
          clear hK K hHeld hS hq
          have hS := hS2
          clear hS2
          generalize yT2x4.alloc (.cells #[.bool false, .slice none 0 0, .int .i64 0] 24) = yT2x8 at *
          generalize yT2x4.heap.size = b9 at *
          have hne := hne_hx9
          try simp only [Act.put, sA, sB, sC]
          refine wpAnyH_ready (rs := [8]) (by kernel_rfl) (by simp) ?_
          refine (AllReadyH.cons (by (try simp only [gA, gB, gC]); rfl) (fun K hK => ?_) AllReadyH.nil)
          obtain ⟨f0, f1, f2, f3, f4, f5⟩ := Er.block_cells hB
          have hset := Er.block_set (x' := .bool gf) (y' := .slice a9 pf c9) (z' := .int .i64 sf) hB
          have hqW := ((Q.setCell (Q.setCell (Q.setCell (Rr.S2.here hS) (ad := ⟨b9, 0, none⟩) hWb (.bool gf)) (ad := ⟨b9, 1, none⟩) hWb (.slice a9 pf c9)) (ad := ⟨b9, 2, none⟩) hWb (.int .i64 sf)))
          have hl := Lst.setCell (Lst.setCell (Lst.setCell hx9 (ad := ⟨b9, 0, none⟩) (.bool gf) hne) (ad := ⟨b9, 1, none⟩) (.slice a9 pf c9) hne) (ad := ⟨b9, 2, none⟩) (.int .i64 sf) hne
          go_simp
          have hS2 := SQ.out _ hqW
          refine hK.out _ _ (by exact hS2) (fun hHeld => ?_)
          clear hK K hHeld hS
          have hS := hS2
          clear hS2 f0 f1 f2 f3 f4 f5
          try simp only [Act.put, sA, sB, sC]
          refine wpAnyH_take (i := 9) (v := ?vT2x10) (by (try simp only [gA, gB, gC]); rfl) (by kernel_rfl) (by kernel_rfl) (by kernel_rfl) (by exact fun _ _ _ h => h) (Or.inl ⟨by rfl, ?hyT2x10⟩) (by exact hS) ?rsT2x10
          case hyT2x10 => (intro w hSw; (try dsimp only at hSw); unfold Rr.S2 at hSw; go_simp; try with_reducible rfl)
          try simp only [Act.put, sA, sB, sC]
          refine wpAnyH_done (by kernel_rfl) ?_ _
          go_wp2_with fail
          go_meet
          exact ⟨b9, a9, c9, rfl, rfl, hWb, hset, hl, hne, hbd, hqW⟩
        · go_simp
          have hq := (Q.refl yT2x3).alloc (.cells #[.bool false, .slice none 0 0, .int .i64 0] 24)
          have hB := heap_alloc_new yT2x3 (.cells #[.bool false, .slice none 0 0, .int .i64 0] 24)
          have hbu : yT2x3.heap.size < (yT2x3.alloc (.cells #[.bool false, .slice none 0 0, .int .i64 0] 24)).heap.size := by rw [World.size_alloc]; omega
          have hWb := (Rr.S2.here hS).le
          have hS2 := SQ.out _ (Q.trans (Rr.S2.here hS) hq)
          refine hK.out _ _ (by exact hS2) (fun hHeld => ?_)
          clear hK K hHeld hS hq
          have hS := hS2
          clear hS2
          generalize yT2x3.alloc (.cells #[.bool false, .slice none 0 0, .int .i64 0] 24) = yT2x11 at *
          generalize yT2x3.heap.size = b9 at *
          try simp only [Act.put, sA, sB, sC]
          refine wpAnyH_ready (rs := [3]) (by kernel_rfl) (by simp) ?_
          refine (AllReadyH.cons (by (try simp only [gA, gB, gC]); rfl) (fun K hK => ?_) AllReadyH.nil)
          go_simp
          refine (HA2.out _ _ _ (L9_L.out.q (Rr.S2.here hS)) (L9_Y.out.q (Rr.S2.here hS))).mono ?_
          rintro e yT2x12 ⟨a9, c9, rfl, hx9, hq⟩
          try (go_wp2_with fail)
          have hB := (Q.block hq (lt_of_block hB)).trans hB
          have hlf := hx9
          have hx9 := Rr.lf_lst hlf
          have hbd := Rr.lf_bd hlf (Rr.S2.here hS).le
          have hne : ∀ (a : Addr) (n c : Nat), (.slice a9 pf c9 : Value) = .slice (some a) n c → n ≠ 0 → a.block ≠ b9 := Rr.lf_ne hlf hbu
          clear hlf
          have hS2 := SQ.out _ (Q.trans (Rr.S2.here hS) hq)
          have hbu := Nat.lt_of_lt_of_le hbu hq.le
          refine hK.out _ _ (by exact hS2) (fun hHeld => ?_)
          clear hK K hHeld hS hq
          have hS := hS2
          clear hS2
          try simp only [Act.put, sA, sB, sC]
          refine wpAnyH_take (i := 4) (v := ?vT2x13) (by (try simp only [gA, gB, gC]); rfl) (by kernel_rfl) (by kernel_rfl) (by kernel_rfl) (by exact fun _ _ _ h => h) (Or.inl ⟨by rfl, ?hyT2x13⟩) (by exact hS) ?rsT2x13
          case hyT2x13 => (intro w hSw; (try dsimp only at hSw); unfold Rr.S2 at hSw; go_simp; try with_reducible rfl)
          try simp only [Act.put, sA, sB, sC]
          refine wpAnyH_take (i := 5) (v := ?vT2x14) (by (try simp only [gA, gB, gC]); rfl) (by kernel_rfl) (by kernel_rfl) (by kernel_rfl) (by exact fun _ _ _ h => h) (Or.inl ⟨by rfl, ?hyT2x14⟩) (by exact hS) ?rsT2x14
          case hyT2x14 => (intro w hSw; (try dsimp only at hSw); unfold Rr.S2 at hSw; go_simp; try with_reducible rfl)
          try simp only [Act.put, sA, sB, sC]
          refine wpAnyH_take (i := 6) (v := ?vT2x15) (by (try simp only [gA, gB, gC]); rfl) (by kernel_rfl) (by kernel_rfl) (by kernel_rfl) (by exact fun _ _ _ h => h) (Or.inl ⟨by rfl, ?hyT2x15⟩) (by exact hS) ?rsT2x15
          case hyT2x15 => (intro w hSw; (try dsimp only at hSw); unfold Rr.S2 at hSw; go_simp; try with_reducible rfl)
          try simp only [Act.put, sA, sB, sC]
          refine wpAnyH_ready (rs := [8]) (by kernel_rfl) (by simp) ?_
          refine (AllReadyH.cons (by (try simp only [gA, gB, gC]); rfl) (fun K hK => ?_) AllReadyH.nil)
          obtain ⟨f0, f1, f2, f3, f4, f5⟩ := Er.block_cells hB
          have hset := Er.block_set (x' := .bool gf) (y' := .slice a9 pf c9) (z' := .int .i64 sf) hB
          have hqW := ((Q.setCell (Q.setCell (Q.setCell (Rr.S2.here hS) (ad := ⟨b9, 0, none⟩) hWb (.bool gf)) (ad := ⟨b9, 1, none⟩) hWb (.slice a9 pf c9)) (ad := ⟨b9, 2, none⟩) hWb (.int .i64 sf)))
          have hl := Lst.setCell (Lst.setCell (Lst.setCell hx9 (ad := ⟨b9, 0, none⟩) (.bool gf) hne) (ad := ⟨b9, 1, none⟩) (.slice a9 pf c9) hne) (ad := ⟨b9, 2, none⟩) (.int .i64 sf) hne
          go_simp
          have hS2 := SQ.out _ hqW
          refine hK.out _ _ (by exact hS2) (fun hHeld => ?_)
          clear hK K hHeld hS
          have hS := hS2
          clear hS2 f0 f1 f2 f3 f4 f5
          try simp only [Act.put, sA, sB, sC]
          refine wpAnyH_take (i := 9) (v := ?vT2x17) (by (try simp only [gA, gB, gC]); rfl) (by kernel_rfl) (by kernel_rfl) (by kernel_rfl) (by exact fun _ _ _ h => h) (Or.inl ⟨by rfl, ?hyT2x17⟩) (by exact hS) ?rsT2x17
          case hyT2x17 => (intro w hSw; (try dsimp only at hSw); unfold Rr.S2 at hSw; go_simp; try with_reducible rfl)
          try simp only [Act.put, sA, sB, sC]
          refine wpAnyH_done (by kernel_rfl) ?_ _
          go_wp2_with fail
          go_meet
          exact ⟨b9, a9, c9, rfl, rfl, hWb, hset, hl, hne, hbd, hqW⟩
      · go_simp
        have hq := (Q.refl yT2x0).alloc (.cells #[.bool false, .slice none 0 0, .int .i64 0] 24)
        have hB := heap_alloc_new yT2x0 (.cells #[.bool false, .slice none 0 0, .int .i64 0] 24)
        have hbu : yT2x0.heap.size < (yT2x0.alloc (.cells #[.bool false, .slice none 0 0, .int .i64 0] 24)).heap.size := by rw [World.size_alloc]; omega
        have hWb := (Rr.S2.here hS).le
        have hS2 := SQ.out _ (Q.trans (Rr.S2.here hS) hq)
        refine hK.out _ _ (by exact hS2) (fun hHeld => ?_)
        clear hK K hHeld hS hq
        have hS := hS2
        clear hS2
        generalize yT2x0.alloc (.cells #[.bool false, .slice none 0 0, .int .i64 0] 24) = yT2x18 at *
        generalize yT2x0.heap.size = b9 at *
        try simp only [Act.put, sA, sB, sC]
        refine wpAnyH_ready (rs := [2]) (by kernel_rfl) (by simp) ?_
        refine (AllReadyH.cons (by (try simp only [gA, gB, gC]); rfl) (fun K hK => ?_) AllReadyH.nil)
        go_simp
        refine (Rr.minus_sh _ _ _ HNL.out _ _ _ _).mono ?_
        rintro e yT2x19 ⟨rfl, hq⟩
        try (go_wp2_with fail)
        have hB := (Q.block hq (lt_of_block hB)).trans hB
        have hS2 := SQ.out _ (Q.trans (Rr.S2.here hS) hq)
        have hbu := Nat.lt_of_lt_of_le hbu hq.le
        refine hK.out _ _ (by exact hS2) (fun hHeld => ?_)
        clear hK K hHeld hS hq
        have hS := hS2
        clear hS2
        try simp only [Act.put, sA, sB, sC]
        refine wpAnyH_ready (rs := [3]) (by kernel_rfl) (by simp) ?_
        refine (AllReadyH.cons (by (try simp only [gA, gB, gC]); rfl) (fun K hK => ?_) AllReadyH.nil)
        go_simp
        refine (HA2.out _ _ _ (L9_L.out.q (Rr.S2.here hS)) (L9_Y.out.q (Rr.S2.here hS))).mono ?_
        rintro e yT2x20 ⟨a9, c9, rfl, hx9, hq⟩
        try (go_wp2_with fail)
        have hB := (Q.block hq (lt_of_block hB)).trans hB
        have hlf := hx9
        have hx9 := Rr.lf_lst hlf
        have hbd := Rr.lf_bd hlf (Rr.S2.here hS).le
        have hne : ∀ (a : Addr) (n c : Nat), (.slice a9 pf c9 : Value) = .slice (some a) n c → n ≠ 0 → a.block ≠ b9 := Rr.lf_ne hlf hbu
        clear hlf
        have hS2 := SQ.out _ (Q.trans (Rr.S2.here hS) hq)
        have hbu := Nat.lt_of_lt_of_le hbu hq.le
        refine hK.out _ _ (by exact hS2) (fun hHeld => ?_)
        clear hK K hHeld hS hq
        have hS := hS2
        clear hS2
        try simp only [Act.put, sA, sB, sC]
        refine wpAnyH_take (i := 4) (v := ?vT2x21) (by (try simp only [gA, gB, gC]); rfl) (by kernel_rfl) (by kernel_rfl) (by kernel_rfl) (by exact fun _ _ _ h => h) (Or.inl ⟨by rfl, ?hyT2x21⟩) (by exact hS) ?rsT2x21
        case hyT2x21 => (intro w hSw; (try dsimp only at hSw); unfold Rr.S2 at hSw; go_simp; try with_reducible rfl)
        try simp only [Act.put, sA, sB, sC]
        refine wpAnyH_take (i := 5) (v := ?vT2x22) (by (try simp only [gA, gB, gC]); rfl) (by kernel_rfl) (by kernel_rfl) (by kernel_rfl) (by exact fun _ _ _ h => h) (Or.inl ⟨by rfl, ?hyT2x22⟩) (by exact hS) ?rsT2x22
        case hyT2x22 => (intro w hSw; (try dsimp only at hSw); unfold Rr.S2 at hSw; go_simp; try with_reducible rfl)
        try simp only [Act.put, sA, sB, sC]
        refine wpAnyH_take (i := 6) (v := ?vT2x23) (by (try simp only [gA, gB, gC]); rfl) (by kernel_rfl) (by kernel_rfl) (by kernel_rfl) (by exact fun _ _ _ h => h) (Or.inl ⟨by rfl, ?hyT2x23⟩) (by exact hS) ?rsT2x23
        case hyT2x23 => (intro w hSw; (try dsimp only at hSw); unfold Rr.S2 at hSw; go_simp; try with_reducible rfl)
        try simp only [Act.put, sA, sB, sC]
        refine wpAnyH_ready (rs := [8]) (by kernel_rfl) (by simp) ?_
        refine (AllReadyH.cons (by (try simp only [gA, gB, gC]); rfl) (fun K hK => ?_) AllReadyH.nil)
        obtain ⟨f0, f1, f2, f3, f4, f5⟩ := Er.block_cells hB
        have hset := Er.block_set (x' := .bool gf) (y' := .slice a9 pf c9) (z' := .int .i64 sf) hB
        have hqW := ((Q.setCell (Q.setCell (Q.setCell (Rr.S2.here hS) (ad := ⟨b9, 0, none⟩) hWb (.bool gf)) (ad := ⟨b9, 1, none⟩) hWb (.slice a9 pf c9)) (ad := ⟨b9, 2, none⟩) hWb (.int .i64 sf)))
        have hl := Lst.setCell (Lst.setCell (Lst.setCell hx9 (ad := ⟨b9, 0, none⟩) (.bool gf) hne) (ad := ⟨b9, 1, none⟩) (.slice a9 pf c9) hne) (ad := ⟨b9, 2, none⟩) (.int .i64 sf) hne
        go_simp
        have hS2 := SQ.out _ hqW
        refine hK.out _ _ (by exact hS2) (fun hHeld => ?_)
        clear hK K hHeld hS
        have hS := hS2
        clear hS2 f0 f1 f2 f3 f4 f5
        try simp only [Act.put, sA, sB, sC]
        refine wpAnyH_take (i := 9) (v := ?vT2x25) (by (try simp only [gA, gB, gC]); rfl) (by kernel_rfl) (by kernel_rfl) (by kernel_rfl) (by exact fun _ _ _ h => h) (Or.inl ⟨by rfl, ?hyT2x25⟩) (by exact hS) ?rsT2x25
        case hyT2x25 => (intro w hSw; (try dsimp only at hSw); unfold Rr.S2 at hSw; go_simp; try with_reducible rfl)
        try simp only [Act.put, sA, sB, sC]
        refine wpAnyH_done (by kernel_rfl) ?_ _
        go_wp2_with fail
        go_meet
        exact ⟨b9, a9, c9, rfl, rfl, hWb, hset, hl, hne, hbd, hqW⟩
    case rest =>
      obtain ⟨b14, a14, c14, rfl, rfl, hwb14, hb14, hl14, hne14, hbd14, hqc⟩ := hcut
      obtain ⟨w14, hw14⟩ : ∃ x, x = wc := ⟨_, rfl⟩
      subst hw14
      have HB14 := Lib.hid hb14
      have LZ14 := Lib.hid hl14
      have NE14 := Lib.hid hne14
      have BD14 := Lib.hid hbd14
      have O_d_b14 := Lib.hid (Nat.lt_of_lt_of_le (lt_of_block B9_d.out) hwb14)
      have O_R_b14 := Lib.hid (Nat.lt_of_lt_of_le (lt_of_block B9_R.out) hwb14)
      have O_lo_b14 := Lib.hid (Nat.lt_of_lt_of_le (lt_of_block B9_lo.out) hwb14)
      have O_up_b14 := Lib.hid (Nat.lt_of_lt_of_le (lt_of_block B9_up.out) hwb14)
      have N_L_b14 := Lib.hid (Rr.old_ne L9_L.out hwb14)
      have N_Y_b14 := Lib.hid (Rr.old_ne L9_Y.out hwb14)
      have N_U_b14 := Lib.hid (Rr.old_ne L9_U.out hwb14)
      have N_Z14_d := Lib.hid (Rr.bd_ne (c := c14) BD14.out (lt_of_block B9_d.out))
      have N_Z14_R := Lib.hid (Rr.bd_ne (c := c14) BD14.out (lt_of_block B9_R.out))
      have N_Z14_lo := Lib.hid (Rr.bd_ne (c := c14) BD14.out (lt_of_block B9_lo.out))
      have N_Z14_up := Lib.hid (Rr.bd_ne (c := c14) BD14.out (lt_of_block B9_up.out))
      have WB14 := Lib.hid (Nat.le_trans Q9.out.le hwb14)
      clear SQ hb14 hl14 hne14 hbd14 hwb14
      have L10_L := Lib.hid (Lst.q L9_L.out hqc)
      clear L9_L
      have L10_Y := Lib.hid (Lst.q L9_Y.out hqc)
      clear L9_Y
      have L10_U := Lib.hid (Lst.q L9_U.out hqc)
      clear L9_U
      have B10_d := Lib.hid ((Q.block hqc (lt_of_block B9_d.out)).trans B9_d.out)
      clear B9_d
      have B10_R := Lib.hid ((Q.block hqc (lt_of_block B9_R.out)).trans B9_R.out)
      clear B9_R
      have B10_lo := Lib.hid ((Q.block hqc (lt_of_block B9_lo.out)).trans B9_lo.out)
      clear B9_lo
      have B10_up := Lib.hid ((Q.block hqc (lt_of_block B9_up.out)).trans B9_up.out)
      clear B9_up
      have Q10 := Lib.hid (Q.trans Q9.out hqc)
      clear Q9
      clear hqc
      have SQ := Lib.hid (fun u (q : Q w14 u) => (by
        obtain ⟨y00, y01, y02, _, _, _⟩ := block_cells ((Q.block q (lt_of_block B10_up.out)).trans B10_up.out)
        obtain ⟨y10, y11, y12, _, _, _⟩ := block_cells ((Q.block q (lt_of_block B10_d.out)).trans B10_d.out)
        exact ⟨y00, y01, y02, y10, y11, y12, q⟩ : Rr.S2 w14 (z12.heap.size) g (.slice a12 pu c12) n (w.heap.size) g (.slice a0 l c0) s u))
      go_upto_region 12 with fail
      go_cut [16, 17] (fun p e wx => ∃ b9 a9 c9, p = .pointer (some ⟨b9, 0, none⟩) ∧ e = .int .i64 0 ∧ w14.heap.size ≤ b9 ∧ wx.heap[b9]? = some (.cells #[.bool gt, .slice a9 pt c9, .int .i64 st] 24) ∧ Lst wx (.slice a9 pt c9) ZT ∧ (∀ (a : Addr) (n c : Nat), (.slice a9 pt c9 : Value) = .slice (some a) n c → n ≠ 0 → a.block ≠ b9) ∧ (∀ ad : Addr, a9 = some ad → pt ≠ 0 → w14.heap.size ≤ ad.block) ∧ Q w14 wx)
      case first =>
        refine wp_region_held_drew (S := fun u => Rr.S2 w14 (z12.heap.size) g (.slice a12 pu c12) n (w.heap.size) g (.slice a0 l c0) s u) (by kernel_rfl) (by exact SQ.out _ ((Q.refl w14).drew)) (fun hHeld => ?_)
        have hS : Rr.S2 w14 (z12.heap.size) g (.slice a12 pu c12) n (w.heap.size) g (.slice a0 l c0) s w14.drew := hHeld
        clear hHeld
        generalize w14.drew = yT3x0 at hS ⊢
        refine wpAnyH_take (i := 0) (v := ?vT3x1) (by (try simp only [gA, gB, gC]); rfl) (by kernel_rfl) (by kernel_rfl) (by kernel_rfl) (by exact fun _ _ _ h => h) (Or.inl ⟨by rfl, ?hyT3x1⟩) (by exact hS) ?rsT3x1
        case hyT3x1 => (intro w hSw; (try dsimp only at hSw); unfold Rr.S2 at hSw; go_simp; try with_reducible rfl)
        try simp only [Act.put, sA, sB, sC]
        refine wpAnyH_take (i := 1) (v := ?vT3x2) (by (try simp only [gA, gB, gC]); rfl) (by kernel_rfl) (by kernel_rfl) (by kernel_rfl) (by exact fun _ _ _ h => h) (Or.inl ⟨by rfl, ?hyT3x2⟩) (by exact hS) ?rsT3x2
        case hyT3x2 => (intro w hSw; (try dsimp only at hSw); unfold Rr.S2 at hSw; go_simp; try with_reducible rfl)
        try simp only [Act.put, sA, sB, sC]
        refine wpAnyH_ready (rs := [2, 7]) (by kernel_rfl) (by simp) ?_
        refine (AllReadyH.cons (by (try simp only [gA, gB, gC]); rfl) (fun K hK => ?_) (AllReadyH.cons (by (try simp only [gA, gB, gC]); rfl) (fun K hK => ?_) AllReadyH.nil))
        · go_simp
          refine (Rr.minus_sh _ _ _ HNG.out _ _ _ _).mono ?_
          rintro e yT3x3 ⟨rfl, hq⟩
          try (go_wp2_with fail)
          have hS2 := SQ.out _ (Q.trans (Rr.S2.here hS) hq)
          refine hK.out _ _ (by exact hS2) (fun hHeld => ?_)
          clear hK K hHeld hS hq
          have hS := hS2
          clear hS2
          try simp only [Act.put, sA, sB, sC]
          refine wpAnyH_ready (rs := [3, 7]) (by kernel_rfl) (by simp) ?_
          refine (AllReadyH.cons (by (try simp only [gA, gB, gC]); rfl) (fun K hK => ?_) (AllReadyH.cons (by (try simp only [gA, gB, gC]); rfl) (fun K hK => ?_) AllReadyH.nil))
          · go_simp
            refine (HA3.out _ _ _ (L10_U.out.q (Rr.S2.here hS)) (L10_L.out.q (Rr.S2.here hS))).mono ?_
            rintro e yT3x4 ⟨a9, c9, rfl, hx9, hq⟩
            try (go_wp2_with fail)
            have hlf := hx9
            have hx9 := Rr.lf_lst hlf
            have hbd := Rr.lf_bd hlf (Rr.S2.here hS).le
            clear hlf
            have hS2 := SQ.out _ (Q.trans (Rr.S2.here hS) hq)
            refine hK.out _ _ (by exact hS2) (fun hHeld => ?_)
            clear hK K hHeld hS hq
            have hS := hS2
            clear hS2
            try simp only [Act.put, sA, sB, sC]
            refine wpAnyH_take (i := 4) (v := ?vT3x5) (by (try simp only [gA, gB, gC]); rfl) (by kernel_rfl) (by kernel_rfl) (by kernel_rfl) (by exact fun _ _ _ h => h) (Or.inl ⟨by rfl, ?hyT3x5⟩) (by exact hS) ?rsT3x5
            case hyT3x5 => (intro w hSw; (try dsimp only at hSw); unfold Rr.S2 at hSw; go_simp; try with_reducible rfl)
            try simp only [Act.put, sA, sB, sC]
            refine wpAnyH_take (i := 5) (v := ?vT3x6) (by (try simp only [gA, gB, gC]); rfl) (by kernel_rfl) (by kernel_rfl) (by kernel_rfl) (by exact fun _ _ _ h => h) (Or.inl ⟨by rfl, ?hyT3x6⟩) (by exact hS) ?rsT3x6
            case hyT3x6 => (intro w hSw; (try dsimp only at hSw); unfold Rr.S2 at hSw; go_simp; try with_reducible rfl)
            try simp only [Act.put, sA, sB, sC]
            refine wpAnyH_take (i := 6) (v := ?vT3x7) (by (try simp only [gA, gB, gC]); rfl) (by kernel_rfl) (by kernel_rfl) (by kernel_rfl) (by exact fun _ _ _ h => h) (Or.inl ⟨by rfl, ?hyT3x7⟩) (by exact hS) ?rsT3x7
            case hyT3x7 => (intro w hSw; (try dsimp only at hSw); unfold Rr.S2 at hSw; go_simp; try with_reducible rfl)
            try simp only [Act.put, sA, sB, sC]
            refine wpAnyH_ready (rs := [7]) (by kernel_rfl) (by simp) ?_
            refine (AllReadyH.cons (by (try simp only [gA, gB, gC]); rfl) (fun K hK => ?_) AllReadyH.nil)
            go_simp
            have hq := (Q.refl yT3x4).alloc (.cells #[.bool false, .slice none 0 0, .int .i64 0] 24)
            have hB := heap_alloc_new yT3x4 (.cells #[.bool false, .slice none 0 0, .int .i64 0] 24)
            have hbu : yT3x4.heap.size < (yT3x4.alloc (.cells #[.bool false, .slice none 0 0, .int .i64 0] 24)).heap.size := by rw [World.size_alloc]; omega
            have hWb := (Rr.S2.here hS).le
            have hne_hx9 : ∀ (a : Addr) (n c : Nat), (.slice a9 pt c9 : Value) = .slice (some a) n c → n ≠ 0 → a.block ≠ yT3x4.heap.size := fun a n c h1 h2 => Nat.ne_of_lt (Lst.old hx9 a n c h1 h2)
            have hx9 := Lst.q hx9 hq
            have hS2 := SQ.out _ (Q.trans (Rr.S2.here hS) hq)
            refine hK.out _ _ (by exact hS2) (fun hHeld => ?_)
            clear hK K hHeld hS hq
            have hS := hS2
            clear hS2
            generalize yT3x4.alloc (.cells #[.bool false, .slice none 0 0, .int .i64 0] 24) = yT3x8 at *
            generalize yT3x4.heap.size = b9 at *
            have hne := hne_hx9
            try simp only [Act.put, sA, sB, sC]
            refine wpAnyH_ready (rs := [8]) (by kernel_rfl) (by simp) ?_
            refine (AllReadyH.cons (by (try simp only [gA, gB, gC]); rfl) (fun K hK => ?_) AllReadyH.nil)
            obtain ⟨f0, f1, f2, f3, f4, f5⟩ := Er.block_cells hB
            have hset := Er.block_set (x' := .bool gt) (y' := .slice a9 pt c9) (z' := .int .i64 st) hB
            have hqW := ((Q.setCell (Q.setCell (Q.setCell (Rr.S2.here hS) (ad := ⟨b9, 0, none⟩) hWb (.bool gt)) (ad := ⟨b9, 1, none⟩) hWb (.slice a9 pt c9)) (ad := ⟨b9, 2, none⟩) hWb (.int .i64 st)))
            have hl := Lst.setCell (Lst.setCell (Lst.setCell hx9 (ad := ⟨b9, 0, none⟩) (.bool gt) hne) (ad := ⟨b9, 1, none⟩) (.slice a9 pt c9) hne) (ad := ⟨b9, 2, none⟩) (.int .i64 st) hne
            go_simp
            have hS2 := SQ.out _ hqW
            refine hK.out _ _ (by exact hS2) (fun hHeld => ?_)
            clear hK K hHeld hS
            have hS := hS2
            clear hS2 f0 f1 f2 f3 f4 f5
            try simp only [Act.put, sA, sB, sC]
            refine wpAnyH_take (i := 9) (v := ?vT3x10) (by (try simp only [gA, gB, gC]); rfl) (by kernel_rfl) (by kernel_rfl) (by kernel_rfl) (by exact fun _ _ _ h => h) (Or.inl ⟨by rfl, ?hyT3x10⟩) (by exact hS) ?rsT3x10
            case hyT3x10 => (intro w hSw; (try dsimp only at hSw); unfold Rr.S2 at hSw; go_simp; try with_reducible rfl)
            try simp only [Act.put, sA, sB, sC]
            refine wpAnyH_done (by kernel_rfl) ?_ _
            go_wp2_with fail
            go_meet
            exact ⟨b9, a9, c9, rfl, rfl, hWb, hset, hl, hne, hbd, hqW⟩
          · go_simp
            have hq := (Q.refl yT3x3).alloc (.cells #[.bool false, .slice none 0 0, .int .i64 0] 24)
            have hB := heap_alloc_new yT3x3 (.cells #[.bool false, .slice none 0 0, .int .i64 0] 24)
            have hbu : yT3x3.heap.size < (yT3x3.alloc (.cells #[.bool false, .slice none 0 0, .int .i64 0] 24)).heap.size := by rw [World.size_alloc]; omega
            have hWb := (Rr.S2.here hS).le
            have hS2 := SQ.out _ (Q.trans (Rr.S2.here hS) hq)
            refine hK.out _ _ (by exact hS2) (fun hHeld => ?_)
            clear hK K hHeld hS hq
            have hS := hS2
            clear hS2
            generalize yT3x3.alloc (.cells #[.bool false, .slice none 0 0, .int .i64 0] 24) = yT3x11 at *
            generalize yT3x3.heap.size = b9 at *
            try simp only [Act.put, sA, sB, sC]
            refine wpAnyH_ready (rs := [3]) (by kernel_rfl) (by simp) ?_
            refine (AllReadyH.cons (by (try simp only [gA, gB, gC]); rfl) (fun K hK => ?_) AllReadyH.nil)
            go_simp
            refine (HA3.out _ _ _ (L10_U.out.q (Rr.S2.here hS)) (L10_L.out.q (Rr.S2.here hS))).mono ?_
            rintro e yT3x12 ⟨a9, c9, rfl, hx9, hq⟩
            try (go_wp2_with fail)
            have hB := (Q.block hq (lt_of_block hB)).trans hB
            have hlf := hx9
            have hx9 := Rr.lf_lst hlf
            have hbd := Rr.lf_bd hlf (Rr.S2.here hS).le
            have hne : ∀ (a : Addr) (n c : Nat), (.slice a9 pt c9 : Value) = .slice (some a) n c → n ≠ 0 → a.block ≠ b9 := Rr.lf_ne hlf hbu
            clear hlf
            have hS2 := SQ.out _ (Q.trans (Rr.S2.here hS) hq)
            have hbu := Nat.lt_of_lt_of_le hbu hq.le
            refine hK.out _ _ (by exact hS2) (fun hHeld => ?_)
            clear hK K hHeld hS hq
            have hS := hS2
            clear hS2
            try simp only [Act.put, sA, sB, sC]
            refine wpAnyH_take (i := 4) (v := ?vT3x13) (by (try simp only [gA, gB, gC]); rfl) (by kernel_rfl) (by kernel_rfl) (by kernel_rfl) (by exact fun _ _ _ h => h) (Or.inl ⟨by rfl, ?hyT3x13⟩) (by exact hS) ?rsT3x13
            case hyT3x13 => (intro w hSw; (try dsimp only at hSw); unfold Rr.S2 at hSw; go_simp; try with_reducible rfl)
            try simp only [Act.put, sA, sB, sC]
            refine wpAnyH_take (i := 5) (v := ?vT3x14) (by (try simp only [gA, gB, gC]); rfl) (by kernel_rfl) (by kernel_rfl) (by kernel_rfl) (by exact fun _ _ _ h => h) (Or.inl ⟨by rfl, ?hyT3x14⟩) (by exact hS) ?rsT3x14
            case hyT3x14 => (intro w hSw; (try dsimp only at hSw); unfold Rr.S2 at hSw; go_simp; try with_reducible rfl)
            try simp only [Act.put, sA, sB, sC]
            refine wpAnyH_take (i := 6) (v := ?vT3x15) (by (try simp only [gA, gB, gC]); rfl) (by kernel_rfl) (by kernel_rfl) (by kernel_rfl) (by exact fun _ _ _ h => h) (Or.inl ⟨by rfl, ?hyT3x15⟩) (by exact hS) ?rsT3x15
            case hyT3x15 => (intro w hSw; (try dsimp only at hSw); unfold Rr.S2 at hSw; go_simp; try with_reducible rfl)
            try simp only [Act.put, sA, sB, sC]
            refine wpAnyH_ready (rs := [8]) (by kernel_rfl) (by simp) ?_
            refine (AllReadyH.cons (by (try simp only [gA, gB, gC]); rfl) (fun K hK => ?_) AllReadyH.nil)
            obtain ⟨f0, f1, f2, f3, f4, f5⟩ := Er.block_cells hB
            have hset := Er.block_set (x' := .bool gt) (y' := .slice a9 pt c9) (z' := .int .i64 st) hB
            have hqW := ((Q.setCell (Q.setCell (Q.setCell (Rr.S2.here hS) (ad := ⟨b9, 0, none⟩) hWb (.bool gt)) (ad := ⟨b9, 1, none⟩) hWb (.slice a9 pt c9)) (ad := ⟨b9, 2, none⟩) hWb (.int .i64 st)))
            have hl := Lst.setCell (Lst.setCell (Lst.setCell hx9 (ad := ⟨b9, 0, none⟩) (.bool gt) hne) (ad := ⟨b9, 1, none⟩) (.slice a9 pt c9) hne) (ad := ⟨b9, 2, none⟩) (.int .i64 st) hne
            go_simp
            have hS2 := SQ.out _ hqW
            refine hK.out _ _ (by exact hS2) (fun hHeld => ?_)
            clear hK K hHeld hS
            have hS := hS2
            clear hS2 f0 f1 f2 f3 f4 f5
            try simp only [Act.put, sA, sB, sC]
            refine wpAnyH_take (i := 9) (v := ?vT3x17) (by (try simp only [gA, gB, gC]); rfl) (by kernel_rfl) (by kernel_rfl) (by kernel_rfl) (by exact fun _ _ _ h => h) (Or.inl ⟨by rfl, ?hyT3x17⟩) (by exact hS) ?rsT3x17
            case hyT3x17 => (intro w hSw; (try dsimp only at hSw); unfold Rr.S2 at hSw; go_simp; try with_reducible rfl)
            try simp only [Act.put, sA, sB, sC]
            refine wpAnyH_done (by kernel_rfl) ?_ _
            go_wp2_with fail
            go_meet
            exact ⟨b9, a9, c9, rfl, rfl, hWb, hset, hl, hne, hbd, hqW⟩
        · go_simp
          have hq := (Q.refl yT3x0).alloc (.cells #[.bool false, .slice none 0 0, .int .i64 0] 24)
          have hB := heap_alloc_new yT3x0 (.cells #[.bool false, .slice none 0 0, .int .i64 0] 24)
          have hbu : yT3x0.heap.size < (yT3x0.alloc (.cells #[.bool false, .slice none 0 0, .int .i64 0] 24)).heap.size := by rw [World.size_alloc]; omega
          have hWb := (Rr.S2.here hS).le
          have hS2 := SQ.out _ (Q.trans (Rr.S2.here hS) hq)
          refine hK.out _ _ (by exact hS2) (fun hHeld => ?_)
          clear hK K hHeld hS hq
          have hS := hS2
          clear hS2
          generalize yT3x0.alloc (.cells #[.bool false, .slice none 0 0, .int .i64 0] 24) = yT3x18 at *
          generalize yT3x0.heap.size = b9 at *
          try simp only [Act.put, sA, sB, sC]
          refine wpAnyH_ready (rs := [2]) (by kernel_rfl) (by simp) ?_
          refine (AllReadyH.cons (by (try simp only [gA, gB, gC]); rfl) (fun K hK => ?_) AllReadyH.nil)
          go_simp
          refine (Rr.minus_sh _ _ _ HNG.out _ _ _ _).mono ?_
          rintro e yT3x19 ⟨rfl, hq⟩
          try (go_wp2_with fail)
          have hB := (Q.block hq (lt_of_block hB)).trans hB
          have hS2 := SQ.out _ (Q.trans (Rr.S2.here hS) hq)
          have hbu := Nat.lt_of_lt_of_le hbu hq.le
          refine hK.out _ _ (by exact hS2) (fun hHeld => ?_)
          clear hK K hHeld hS hq
          have hS := hS2
          clear hS2
          try simp only [Act.put, sA, sB, sC]
          refine wpAnyH_ready (rs := [3]) (by kernel_rfl) (by simp) ?_
          refine (AllReadyH.cons (by (try simp only [gA, gB, gC]); rfl) (fun K hK => ?_) AllReadyH.nil)
          go_simp
          refine (HA3.out _ _ _ (L10_U.out.q (Rr.S2.here hS)) (L10_L.out.q (Rr.S2.here hS))).mono ?_
          rintro e yT3x20 ⟨a9, c9, rfl, hx9, hq⟩
          try (go_wp2_with fail)
          have hB := (Q.block hq (lt_of_block hB)).trans hB
          have hlf := hx9
          have hx9 := Rr.lf_lst hlf
          have hbd := Rr.lf_bd hlf (Rr.S2.here hS).le
          have hne : ∀ (a : Addr) (n c : Nat), (.slice a9 pt c9 : Value) = .slice (some a) n c → n ≠ 0 → a.block ≠ b9 := Rr.lf_ne hlf hbu
          clear hlf
          have hS2 := SQ.out _ (Q.trans (Rr.S2.here hS) hq)
          have hbu := Nat.lt_of_lt_of_le hbu hq.le
          refine hK.out _ _ (by exact hS2) (fun hHeld => ?_)
          clear hK K hHeld hS hq
          have hS := hS2
          clear hS2
          try simp only [Act.put, sA, sB, sC]
          refine wpAnyH_take (i := 4) (v := ?vT3x21) (by (try simp only [gA, gB, gC]); rfl) (by kernel_rfl) (by kernel_rfl) (by kernel_rfl) (by exact fun _ _ _ h => h) (Or.inl ⟨by rfl, ?hyT3x21⟩) (by exact hS) ?rsT3x21
          case hyT3x21 => (intro w hSw; (try dsimp only at hSw); unfold Rr.S2 at hSw; go_simp; try with_reducible rfl)
          try simp only [Act.put, sA, sB, sC]
          refine wpAnyH_take (i := 5) (v := ?vT3x22) (by (try simp only [gA, gB, gC]); rfl) (by kernel_rfl) (by kernel_rfl) (by kernel_rfl) (by exact fun _ _ _ h => h) (Or.inl ⟨by rfl, ?hyT3x22⟩) (by exact hS) ?rsT3x22
          case hyT3x22 => (intro w hSw; (try dsimp only at hSw); unfold Rr.S2 at hSw; go_simp; try with_reducible rfl)
          try simp only [Act.put, sA, sB, sC]
          refine wpAnyH_take (i := 6) (v := ?vT3x23) (by (try simp only [gA, gB, gC]); rfl) (by kernel_rfl) (by kernel_rfl) (by kernel_rfl) (by exact fun _ _ _ h => h) (Or.inl ⟨by rfl, ?hyT3x23⟩) (by exact hS) ?rsT3x23
          case hyT3x23 => (intro w hSw; (try dsimp only at hSw); unfold Rr.S2 at hSw; go_simp; try with_reducible rfl)
          try simp only [Act.put, sA, sB, sC]
          refine wpAnyH_ready (rs := [8]) (by kernel_rfl) (by simp) ?_
          refine (AllReadyH.cons (by (try simp only [gA, gB, gC]); rfl) (fun K hK => ?_) AllReadyH.nil)
          obtain ⟨f0, f1, f2, f3, f4, f5⟩ := Er.block_cells hB
          have hset := Er.block_set (x' := .bool gt) (y' := .slice a9 pt c9) (z' := .int .i64 st) hB
          have hqW := ((Q.setCell (Q.setCell (Q.setCell (Rr.S2.here hS) (ad := ⟨b9, 0, none⟩) hWb (.bool gt)) (ad := ⟨b9, 1, none⟩) hWb (.slice a9 pt c9)) (ad := ⟨b9, 2, none⟩) hWb (.int .i64 st)))
          have hl := Lst.setCell (Lst.setCell (Lst.setCell hx9 (ad := ⟨b9, 0, none⟩) (.bool gt) hne) (ad := ⟨b9, 1, none⟩) (.slice a9 pt c9) hne) (ad := ⟨b9, 2, none⟩) (.int .i64 st) hne
          go_simp
          have hS2 := SQ.out _ hqW
          refine hK.out _ _ (by exact hS2) (fun hHeld => ?_)
          clear hK K hHeld hS
          have hS := hS2
          clear hS2 f0 f1 f2 f3 f4 f5
          try simp only [Act.put, sA, sB, sC]
          refine wpAnyH_take (i := 9) (v := ?vT3x25) (by (try simp only [gA, gB, gC]); rfl) (by kernel_rfl) (by kernel_rfl) (by kernel_rfl) (by exact fun _ _ _ h => h) (Or.inl ⟨by rfl, ?hyT3x25⟩) (by exact hS) ?rsT3x25
          case hyT3x25 => (intro w hSw; (try dsimp only at hSw); unfold Rr.S2 at hSw; go_simp; try with_reducible rfl)
          try simp only [Act.put, sA, sB, sC]
          refine wpAnyH_done (by kernel_rfl) ?_ _
          go_wp2_with fail
          go_meet
          exact ⟨b9, a9, c9, rfl, rfl, hWb, hset, hl, hne, hbd, hqW⟩
      case rest =>
        obtain ⟨b16, a16, c16, rfl, rfl, hwb16, hb16, hl16, hne16, hbd16, hqc⟩ := hcut
        obtain ⟨w16, hw16⟩ : ∃ x, x = wc := ⟨_, rfl⟩
        subst hw16
        have HB16 := Lib.hid hb16
        have LZ16 := Lib.hid hl16
        have NE16 := Lib.hid hne16
        have BD16 := Lib.hid hbd16
        have O_d_b16 := Lib.hid (Nat.lt_of_lt_of_le (lt_of_block B10_d.out) hwb16)
        have O_R_b16 := Lib.hid (Nat.lt_of_lt_of_le (lt_of_block B10_R.out) hwb16)
        have O_lo_b16 := Lib.hid (Nat.lt_of_lt_of_le (lt_of_block B10_lo.out) hwb16)
        have O_up_b16 := Lib.hid (Nat.lt_of_lt_of_le (lt_of_block B10_up.out) hwb16)
        have O_b14_b16 := Lib.hid (Nat.lt_of_lt_of_le (lt_of_block HB14.out) hwb16)
        have N_L_b16 := Lib.hid (Rr.old_ne L10_L.out hwb16)
        have N_Y_b16 := Lib.hid (Rr.old_ne L10_Y.out hwb16)
        have N_U_b16 := Lib.hid (Rr.old_ne L10_U.out hwb16)
        have N_Z14_b16 := Lib.hid (Rr.old_ne LZ14.out hwb16)
        have N_Z16_d := Lib.hid (Rr.bd_ne (c := c16) BD16.out (lt_of_block B10_d.out))
        have N_Z16_R := Lib.hid (Rr.bd_ne (c := c16) BD16.out (lt_of_block B10_R.out))
        have N_Z16_lo := Lib.hid (Rr.bd_ne (c := c16) BD16.out (lt_of_block B10_lo.out))
        have N_Z16_up := Lib.hid (Rr.bd_ne (c := c16) BD16.out (lt_of_block B10_up.out))
        have N_Z16_b14 := Lib.hid (Rr.bd_ne (c := c16) BD16.out (lt_of_block HB14.out))
        have WB16 := Lib.hid (Nat.le_trans Q10.out.le hwb16)
        clear SQ hb16 hl16 hne16 hbd16 hwb16
        have L11_L := Lib.hid (Lst.q L10_L.out hqc)
        clear L10_L
        have L11_Y := Lib.hid (Lst.q L10_Y.out hqc)
        clear L10_Y
        have L11_U := Lib.hid (Lst.q L10_U.out hqc)
        clear L10_U
        have L11_Z14 := Lib.hid (Lst.q LZ14.out hqc)
        clear LZ14
        have B11_d := Lib.hid ((Q.block hqc (lt_of_block B10_d.out)).trans B10_d.out)
        clear B10_d
        have B11_R := Lib.hid ((Q.block hqc (lt_of_block B10_R.out)).trans B10_R.out)
        clear B10_R
        have B11_lo := Lib.hid ((Q.block hqc (lt_of_block B10_lo.out)).trans B10_lo.out)
        clear B10_lo
        have B11_up := Lib.hid ((Q.block hqc (lt_of_block B10_up.out)).trans B10_up.out)
        clear B10_up
        have B11_b14 := Lib.hid ((Q.block hqc (lt_of_block HB14.out)).trans HB14.out)
        clear HB14
        have Q11 := Lib.hid (Q.trans Q10.out hqc)
        clear Q10
        clear hqc
        obtain ⟨k_d0, k_d1, k_d2, _, _, _⟩ := Er.block_cells B11_d.out
        obtain ⟨k_R0, k_R1, k_R2, _, _, _⟩ := Er.block_cells B11_R.out
        obtain ⟨k_lo0, k_lo1, k_lo2, _, _, _⟩ := Er.block_cells B11_lo.out
        obtain ⟨k_up0, k_up1, k_up2, _, _, _⟩ := Er.block_cells B11_up.out
        obtain ⟨k_b140, k_b141, k_b142, _, _, _⟩ := Er.block_cells B11_b14.out
        obtain ⟨k_b160, k_b161, k_b162, _, _, _⟩ := Er.block_cells HB16.out
        have B12_d := Lib.hid ((heap_setCell_other w16 ⟨b14, 0, none⟩ (w.heap.size) (.bool false) (Nat.ne_of_lt O_d_b14.out)).trans B11_d.out)
        have B12_R := Lib.hid ((heap_setCell_other w16 ⟨b14, 0, none⟩ (w.heap.size + 1) (.bool false) (Nat.ne_of_lt O_R_b14.out)).trans B11_R.out)
        have B12_lo := Lib.hid ((heap_setCell_other w16 ⟨b14, 0, none⟩ (z2.heap.size) (.bool false) (Nat.ne_of_lt O_lo_b14.out)).trans B11_lo.out)
        have B12_up := Lib.hid ((heap_setCell_other w16 ⟨b14, 0, none⟩ (z12.heap.size) (.bool false) (Nat.ne_of_lt O_up_b14.out)).trans B11_up.out)
        have B12_b14 := Lib.hid (show (w16.setCell ⟨b14, 0, none⟩ (.bool false)).heap[b14]? = some (.cells #[.bool false, .slice a14 pf c14, .int .i64 sf] 24) from heap_setCell_same w16 b14 0 _ _ (.bool false) B11_b14.out)
        have B12_b16 := Lib.hid ((heap_setCell_other w16 ⟨b14, 0, none⟩ (b16) (.bool false) (Nat.ne_of_gt O_b14_b16.out)).trans HB16.out)
        have L12_L := Lib.hid (Lst.setCell L11_L.out (ad := ⟨b14, 0, none⟩) (.bool false) N_L_b14.out)
        have L12_Y := Lib.hid (Lst.setCell L11_Y.out (ad := ⟨b14, 0, none⟩) (.bool false) N_Y_b14.out)
        have L12_U := Lib.hid (Lst.setCell L11_U.out (ad := ⟨b14, 0, none⟩) (.bool false) N_U_b14.out)
        have L12_Z14 := Lib.hid (Lst.setCell L11_Z14.out (ad := ⟨b14, 0, none⟩) (.bool false) NE14.out)
        have L12_Z16 := Lib.hid (Lst.setCell LZ16.out (ad := ⟨b14, 0, none⟩) (.bool false) N_Z16_b14.out)
        have Q12 := Lib.hid (Q.setCell Q11.out (ad := ⟨b14, 0, none⟩) WB14.out (.bool false))
        obtain ⟨j16a, j16b, j16c, j16d, j16e, j16f⟩ := block_cells B12_b16.out
        obtain ⟨j14a, j14b, j14c, j14d, j14e, j14f⟩ := block_cells B12_b14.out
        have B13_d := Lib.hid ((heap_setCell_other (w16.setCell ⟨b14, 0, none⟩ (.bool false)) ⟨b16, 0, none⟩ (w.heap.size) (.bool false) (Nat.ne_of_lt O_d_b16.out)).trans B12_d.out)
        have B13_R := Lib.hid ((heap_setCell_other (w16.setCell ⟨b14, 0, none⟩ (.bool false)) ⟨b16, 0, none⟩ (w.heap.size + 1) (.bool false) (Nat.ne_of_lt O_R_b16.out)).trans B12_R.out)
        have B13_lo := Lib.hid ((heap_setCell_other (w16.setCell ⟨b14, 0, none⟩ (.bool false)) ⟨b16, 0, none⟩ (z2.heap.size) (.bool false) (Nat.ne_of_lt O_lo_b16.out)).trans B12_lo.out)
        have B13_up := Lib.hid ((heap_setCell_other (w16.setCell ⟨b14, 0, none⟩ (.bool false)) ⟨b16, 0, none⟩ (z12.heap.size) (.bool false) (Nat.ne_of_lt O_up_b16.out)).trans B12_up.out)
        have B13_b14 := Lib.hid ((heap_setCell_other (w16.setCell ⟨b14, 0, none⟩ (.bool false)) ⟨b16, 0, none⟩ (b14) (.bool false) (Nat.ne_of_lt O_b14_b16.out)).trans B12_b14.out)
        have B13_b16 := Lib.hid (show ((w16.setCell ⟨b14, 0, none⟩ (.bool false)).setCell ⟨b16, 0, none⟩ (.bool false)).heap[b16]? = some (.cells #[.bool false, .slice a16 pt c16, .int .i64 st] 24) from heap_setCell_same (w16.setCell ⟨b14, 0, none⟩ (.bool false)) b16 0 _ _ (.bool false) B12_b16.out)
        have L13_L := Lib.hid (Lst.setCell L12_L.out (ad := ⟨b16, 0, none⟩) (.bool false) N_L_b16.out)
        have L13_Y := Lib.hid (Lst.setCell L12_Y.out (ad := ⟨b16, 0, none⟩) (.bool false) N_Y_b16.out)
        have L13_U := Lib.hid (Lst.setCell L12_U.out (ad := ⟨b16, 0, none⟩) (.bool false) N_U_b16.out)
        have L13_Z14 := Lib.hid (Lst.setCell L12_Z14.out (ad := ⟨b16, 0, none⟩) (.bool false) N_Z14_b16.out)
        have L13_Z16 := Lib.hid (Lst.setCell L12_Z16.out (ad := ⟨b16, 0, none⟩) (.bool false) NE16.out)
        have Q13 := Lib.hid (Q.setCell Q12.out (ad := ⟨b16, 0, none⟩) WB16.out (.bool false))
        obtain ⟨kb14a, kb14b, kb14c, _, _, _⟩ := block_cells B13_b14.out
        obtain ⟨kb16a, kb16b, kb16c, _, _, _⟩ := block_cells B13_b16.out
        go_wp2_with fail
        refine (HC2.out _ _ _ L13_Z14.out L13_Z16.out).mono ?_
        rintro e z16 ⟨rfl, hq⟩
        clear k_d0 k_d1 k_d2 k_R0 k_R1 k_R2 k_lo0 k_lo1 k_lo2 k_up0 k_up1 k_up2 k_b140 k_b141 k_b142 k_b160 k_b161 k_b162 j16a j16b j16c j16d j16e j16f j14a j14b j14c j14d j14e j14f kb14a kb14b kb14c kb16a kb16b kb16c HC2
        have L15_Y := Lib.hid (Lst.q L13_Y.out hq)
        clear L13_Y
        have L15_U := Lib.hid (Lst.q L13_U.out hq)
        clear L13_U
        have B15_d := Lib.hid ((Q.block hq (lt_of_block B13_d.out)).trans B13_d.out)
        clear B13_d
        have B15_R := Lib.hid ((Q.block hq (lt_of_block B13_R.out)).trans B13_R.out)
        clear B13_R
        have B15_lo := Lib.hid ((Q.block hq (lt_of_block B13_lo.out)).trans B13_lo.out)
        clear B13_lo
        have B15_up := Lib.hid ((Q.block hq (lt_of_block B13_up.out)).trans B13_up.out)
        clear B13_up
        have Q15 := Lib.hid (Q.trans Q13.out hq)
        clear Q13
        clear hq
        go_upto_region 16 with fail
        go_cut [19] (fun o wx => o = .bool od ∧ wx = z16)
        case first =>
          obtain ⟨k_d0, k_d1, k_d2, _, _, _⟩ := Er.block_cells B15_d.out
          obtain ⟨k_R0, k_R1, k_R2, _, _, _⟩ := Er.block_cells B15_R.out
          obtain ⟨k_lo0, k_lo1, k_lo2, _, _, _⟩ := Er.block_cells B15_lo.out
          obtain ⟨k_up0, k_up1, k_up2, _, _, _⟩ := Er.block_cells B15_up.out
          rcases HOD.out with ⟨hy, rfl⟩ | ⟨hy, hy0, hy1⟩
          · have hp0 : p = 0 := by rw [← HP.out, hy]; rfl
            subst hp0
            go_wp2_with fail
            go_meet
            exact ⟨rfl, rfl⟩
          · obtain ⟨q, hq⟩ : ∃ q, p = q + 1 := ⟨p - 1, by have := HP.out; omega⟩
            subst hq
            have hpq : YL.length = q + 1 := HP.out
            rw [hpq, Nat.add_sub_cancel] at hy0 hy1
            obtain ⟨g2, off2, cap2, hv2, _, _, _, k1⟩ := Lst.cellOf L15_Y.out hpq (Nat.lt_succ_self q)
            cases hv2
            generalize YL.getD q 0 = dd at *
            have hq0 : (0 : Int) < ((q + 1 : Nat) : Int) := by omega
            have hq1 : ((q + 1 : Nat) : Int) - 1 = (q : Int) := by omega
            have hq2 : (0 : Int) ≤ (q : Int) := by omega
            have ht : dd.tmod 2 = dd % 2 := Int.tmod_eq_emod_of_nonneg hy0
            rcases (show dd % 2 = 0 ∨ dd % 2 = 1 from by omega) with h | h
            · have hod : od = false := by rw [hy1, h]; rfl
              subst hod
              rw [h] at ht
              clear hy1 hy
              go_wp2_with fail
              go_meet
              exact ⟨rfl, rfl⟩
            · have hod : od = true := by rw [hy1, h]; rfl
              subst hod
              rw [h] at ht
              clear hy1 hy
              go_wp2_with fail
              go_meet
              exact ⟨rfl, rfl⟩
        case rest =>
          obtain ⟨rfl, rfl⟩ := hcut
          have hsetU := Lib.hid (block_set (x' := .bool g) (y' := .slice a12 pu c12) (z' := .int .i64 n) B15_R.out)
          have hlU := Lib.hid (LF.put (r := w.heap.size + 1) (Rr.bd_lf L15_U.out HPU.out BDU.out) (by omega) (.bool g) (.slice a12 pu c12) (.int .i64 n))
          have HQU := Lib.hid (Q.setCell (Q.setCell (Q.setCell Q15.out (ad := ⟨w.heap.size + 1, 0, none⟩) (by show w.heap.size ≤ w.heap.size + 1; omega) (.bool g)) (ad := ⟨w.heap.size + 1, 1, none⟩) (by show w.heap.size ≤ w.heap.size + 1; omega) (.slice a12 pu c12)) (ad := ⟨w.heap.size + 1, 2, none⟩) (by show w.heap.size ≤ w.heap.size + 1; omega) (.int .i64 n))
          have hsetL := Lib.hid (block_set (x' := .bool gl) (y' := .slice a1 p c1x) (z' := .int .i64 n) B15_R.out)
          have hlL := Lib.hid (LF.put (r := w.heap.size + 1) (Rr.bd_lf L15_Y.out HP.out BDY.out) (by omega) (.bool gl) (.slice a1 p c1x) (.int .i64 n))
          have HQL := Lib.hid (Q.setCell (Q.setCell (Q.setCell Q15.out (ad := ⟨w.heap.size + 1, 0, none⟩) (by show w.heap.size ≤ w.heap.size + 1; omega) (.bool gl)) (ad := ⟨w.heap.size + 1, 1, none⟩) (by show w.heap.size ≤ w.heap.size + 1; omega) (.slice a1 p c1x)) (ad := ⟨w.heap.size + 1, 2, none⟩) (by show w.heap.size ≤ w.heap.size + 1; omega) (.int .i64 n))
          obtain ⟨k_d0, k_d1, k_d2, _, _, _⟩ := Er.block_cells B15_d.out
          obtain ⟨k_R0, k_R1, k_R2, _, _, _⟩ := Er.block_cells B15_R.out
          obtain ⟨k_lo0, k_lo1, k_lo2, _, _, _⟩ := Er.block_cells B15_lo.out
          obtain ⟨k_up0, k_up1, k_up2, _, _, _⟩ := Er.block_cells B15_up.out
          obtain ⟨_, _, _, r3, r4, r5⟩ := block_cells B15_R.out
          rcases HU.out with ⟨rfl, hu⟩ | ⟨rfl, hu⟩ | ⟨rfl, hu⟩ | ⟨rfl, hu⟩ | ⟨rfl, hu⟩ | ⟨rfl, hu⟩ | ⟨rfl, hu⟩
          · clear HU HCC HOD
            subst hu
            go_wp2_with fail
            exact ret_dv2 rfl rfl rfl hsetL.out rfl ⟨_, rfl, hlL.out, HQL.out⟩
          · clear HU HCC HOD
            subst hu
            go_wp2_with fail
            exact ret_dv2 rfl rfl rfl hsetU.out rfl ⟨_, rfl, hlU.out, HQU.out⟩
          · clear HU HCC HOD
            subst hu
            cases U
            · go_wp2_with fail
              exact ret_dv2 rfl rfl rfl hsetL.out rfl ⟨_, rfl, hlL.out, HQL.out⟩
            · go_wp2_with fail
              exact ret_dv2 rfl rfl rfl hsetU.out rfl ⟨_, rfl, hlU.out, HQU.out⟩
          · clear HU HCC HOD
            subst hu
            cases g
            · go_wp2_with fail
              exact ret_dv2 rfl rfl rfl hsetU.out rfl ⟨_, rfl, hlU.out, HQU.out⟩
            · go_wp2_with fail
              exact ret_dv2 rfl rfl rfl hsetL.out rfl ⟨_, rfl, hlL.out, HQL.out⟩
          · rcases HCC.out with rfl | rfl | rfl
            · clear HU HCC HOD
              have hu1 := hu
              simp at hu1
              subst hu1
              clear hu
              go_wp2_with fail
              exact ret_dv2 rfl rfl rfl hsetL.out rfl ⟨_, rfl, hlL.out, HQL.out⟩
            · clear HU HCC HOD
              have hu1 := hu
              simp at hu1
              subst hu1
              clear hu
              go_wp2_with fail
              exact ret_dv2 rfl rfl rfl hsetL.out rfl ⟨_, rfl, hlL.out, HQL.out⟩
            · clear HU HCC HOD
              have hu1 := hu
              simp at hu1
              subst hu1
              clear hu
              go_wp2_with fail
              exact ret_dv2 rfl rfl rfl hsetU.out rfl ⟨_, rfl, hlU.out, HQU.out⟩
          · rcases HCC.out with rfl | rfl | rfl
            · clear HU HCC HOD
              have hu1 := hu
              simp at hu1
              subst hu1
              clear hu
              go_wp2_with fail
              exact ret_dv2 rfl rfl rfl hsetL.out rfl ⟨_, rfl, hlL.out, HQL.out⟩
            · clear HU HCC HOD
              have hu1 := hu
              simp at hu1
              subst hu1
              clear hu
              go_wp2_with fail
              exact ret_dv2 rfl rfl rfl hsetU.out rfl ⟨_, rfl, hlU.out, HQU.out⟩
            · clear HU HCC HOD
              have hu1 := hu
              simp at hu1
              subst hu1
              clear hu
              go_wp2_with fail
              exact ret_dv2 rfl rfl rfl hsetU.out rfl ⟨_, rfl, hlU.out, HQU.out⟩
          · rcases HCC.out with rfl | rfl | rfl
            · clear HU HCC HOD
              have hu1 : U = false := by rw [hu]; simp
              clear hu
              subst hu1
              go_wp2_with fail
              exact ret_dv2 rfl rfl rfl hsetL.out rfl ⟨_, rfl, hlL.out, HQL.out⟩
            · clear HU HCC HOD
              have hu1 : U = od := by rw [hu]; simp
              clear hu
              subst hu1
              cases U
              · go_wp2_with fail
                exact ret_dv2 rfl rfl rfl hsetL.out rfl ⟨_, rfl, hlL.out, HQL.out⟩
              · go_wp2_with fail
                exact ret_dv2 rfl rfl rfl hsetU.out rfl ⟨_, rfl, hlU.out, HQU.out⟩
            · clear HU HCC HOD
              have hu1 : U = true := by rw [hu]; simp
              clear hu
              subst hu1
              go_wp2_with fail
              exact ret_dv2 rfl rfl rfl hsetU.out rfl ⟨_, rfl, hlU.out, HQU.out⟩
end Rr
end Go.Proofs.Yteljedefbomlgaa
