/- DecimalParses: of whatever text (the first 40 bytes), and of a decimal's (whatever decimal, its first 20 numbers made digits, its scale made 0 to 9), of which one byte is another one, the decimal, or the error, is the document's; no conditions. -/
import Derived.Test.YtilbefdeanhnpaaRows
import Derived.WalkKit
import Derived.ProofKit
import Derived.OpenShut
import Derived.ShutString
import Derived.ChangeOld
import Derived.Below
import Derived.Lib.SmallJoins
import Derived.Test.YtilbefdeanhnpaaInts
import Derived.Test.YtilbefdeanhnpaaUtfM
import Derived.Test.YtilbefdeanhnpaaUtfG
import Derived.Test.YtilbefdeanhnpaaUtfR
import Derived.Test.YtilbefdeanhnpaaDigM
import Derived.Test.YtilbefdeanhnpaaDigL
import Derived.Test.YtilbefdeanhnpaaDigR
import Derived.Test.YtilbefdeanhnpaaDecM
import Derived.Test.YtilbefdeanhnpaaDecR
import Derived.Test.YtilbefdeanhnpaaDecS
import Derived.Test.YtilbefdeanhnpaaDecC
import Derived.Test.YtilbefdeanhnpaaDecF
import Derived.Test.YtilbefdeanhnpaaDecG
import Derived.Test.YtilbefdeanhnpaaDecQ
import Derived.Test.YtilbefdeanhnpaaDecH
import Derived.Test.YtilbefdeanhnpaaDecI
import Derived.Test.YtilbefdeanhnpaaDecJ
import Derived.Test.YtilbefdeanhnpaaDecK
import Derived.Test.YtilbefdeanhnpaaDecO
import Derived.Test.YtilbefdeanhnpaaDecZ
import Derived.Test.YtilbefdeanhnpaaDigA
import Derived.Test.YtilbefdeanhnpaaDecD
import Derived.Test.YtilbefdeanhnpaaDecV
import Derived.Test.YtilbefdeanhnpaaDecN
import Derived.Test.YtilbefdeanhnpaaDecT
import Derived.Test.YtilbefdeanhnpaaDecU
import Derived.Test.YtilbefdeanhnpaaDecAA
set_option linter.unusedVariables false
set_option linter.unusedSimpArgs false
namespace Go.Proofs.Ytilbefdeanhnpaa.decimalParses
open Go.ChangeShapes Go.WideShapes Go.ChangeAt Go.RowKit
open Go.ChangeMaps (open_string shut_string)

theorem own : ownKnob Try.prog.godebug = none := by kernel_rfl
theorem laidOut : laidOutB Try.prog = true := by kernel_rfl


set_option maxHeartbeats 8000000 in
set_option maxRecDepth 100000 in
theorem walk (w : World) (a0 : ByteArray) (w0 : a0.size ≤ maxLen) (g1 : Bool) (v1 : Value) (xs1 : List Int) (w1 : Lst w v1 xs1) (b1 : ∀ n ∈ xs1, -9223372036854775808 ≤ n ∧ n ≤ 9223372036854775807) (s1 : Int) (ws1 : -9223372036854775808 ≤ s1 ∧ s1 ≤ 9223372036854775807) (a2 : Int) (w2 : -9223372036854775808 ≤ a2 ∧ a2 ≤ 9223372036854775807) (a3 : Int) (w3 : 0 ≤ a3 ∧ a3 ≤ 255) :
    Calls Try.prog 3 #[.string a0, .agg #[.bool g1, v1, .int .i64 s1], .int .i64 a2, .int .u8 a3] w fun e w' => e = .returned (.bool true) ∧ Q w w' := by
  obtain ⟨A1, C1, rfl, _, _⟩ := w1.shape2
  have hgl1 := Dm.gdL_len xs1 20
  have kX1 := Dm.gdL_ok xs1 20
  have hab1 := Um.around_bd s1 10 (by omega)
  obtain ⟨t1, ht1⟩ : ∃ t : Nat, Um.around s1 10 = (t : Int) := ⟨(Um.around s1 10).toNat, by omega⟩
  rw [ht1] at hab1
  have hs1 : t1 ≤ 9 := by omega
  obtain ⟨p1, hp1⟩ : ∃ p, (Dm.gdL xs1 20).length = p := ⟨_, rfl⟩
  have hpm1 : p1 ≤ 20 := by omega
  have G1 := Lib.hid (fun u (q : Q w u) => Ep.good_sh u g1 A1 xs1.length C1 s1 xs1 20 (w1.q q) rfl ws1 (by omega) b1 t1 p1 ht1 hp1)
  generalize Dm.gdL xs1 20 = X1 at *
  generalize hn1 : xs1.length = n1 at *
  have HP1 := Lib.hid hp1
  clear hgl1 hab1 ht1 hp1
  have hp1' := HP1.out
  have hPS := Dm.prt_size g1 X1 t1
  have hPN := Ep.prt_ne g1 X1 t1
  have RO := Lib.hid (fun u v (h : Lst u v X1) => (Er.print_any g1 v t1 X1 u h (by omega) kX1 (by omega) : Calls Try.prog 11 #[.agg #[.bool g1, v, .int .i64 t1]] u fun e w' => e = .returned (.string (Dm.prt g1 X1 t1)) ∧ Q u w'))
  generalize Dm.prt g1 X1 t1 = T at *
  have hTe : T.toList.isEmpty = false := by
    have h := Um.size_list T
    rw [Ur.toList_eq]
    cases hc : T.data.toList with
    | nil => rw [hc] at h; simp at h; omega
    | cons a b => rfl
  obtain ⟨m, hm⟩ : ∃ m, T.size = m := ⟨_, rfl⟩
  have A9 := Lib.hid (fun w => Ur.around_any a2 m w w2.1 w2.2 (by omega) (by omega))
  have hab := Um.around_bd a2 m (by omega)
  obtain ⟨k, hk⟩ : ∃ k : Nat, Um.around a2 m = (k : Int) := ⟨(Um.around a2 m).toNat, by omega⟩
  rw [hk] at A9 hab
  have hkm : k < m := by omega
  have hm32 : m ≤ 40 := by omega
  have FW := Lib.hid (fun u => Ur.few_any a0 40 u w0 (by omega))
  have hfs := Ur.few_size a0 40
  generalize Ur.few a0 40 = F at *
  obtain ⟨k1, hk1⟩ : ∃ k1, k1 = k + 1 := ⟨_, rfl⟩
  have hw1 : IntKind.i64.wrap ((k : Int) + 1) = (k1 : Int) := by rw [Er.wrapI (by omega) (by omega)]; omega
  have hcv := fun u => Ur.convN u [a3] 1 rfl
  simp only [List.map_cons, List.map_nil] at hcv
  have hss : (strOfNums [a3]).size = 1 := strOfNums_size _
  generalize strOfNums [a3] = cb at *
  have hA1 : (T.extract 0 k).size = k := by rw [ByteArray.size_extract]; omega
  have hB1 : (T.extract k1 m).size = m - k1 := by rw [ByteArray.size_extract]; omega
  obtain ⟨A, heA⟩ : ∃ A, T.extract 0 k = A := ⟨_, rfl⟩
  obtain ⟨Bz, heB⟩ : ∃ B, T.extract k1 m = B := ⟨_, rfl⟩
  rw [heA] at hA1
  rw [heB] at hB1
  have hkm1 : (k : Int) ≤ (m : Int) := by omega
  have hkm2 : (k1 : Int) ≤ (m : Int) := by omega
  have hkm3 : k ≤ m := by omega
  have hkm4 : k1 ≤ m := by omega
  obtain ⟨U, hU⟩ : ∃ U, U = A ++ cb ++ Bz := ⟨_, rfl⟩
  have hUs : U.size ≤ 60 := by rw [hU, ByteArray.size_append, ByteArray.size_append]; omega
  have HU := Lib.hid hU
  have HPB := Lib.hid (fun (z : ByteArray) (h : z ∈ [F, T, U]) => Ep.parse_both z (by
    simp only [List.mem_cons, List.not_mem_nil, or_false] at h
    rcases h with rfl | rfl | rfl <;> omega))
  have HML := Lib.hid hm
  have LV := Lib.hid Ep.lives_any
  have HFS := Lib.hid hfs
  have HCV := Lib.hid hcv
  clear hp1' hPS hPN hab hk hk1 hU hUs kX1 w1 b1 hn1
  go_enter Try.func3, Try.ntmps3
  have Q0 := Lib.hid (show Q w (w.alloc (.cells #[.bool g1, .slice A1 n1 C1, .int .i64 s1] 24)) from ((Q.refl w).alloc (.cells #[.bool g1, .slice A1 n1 C1, .int .i64 s1] 24)))
  have B0_i := Lib.hid (show (w.alloc (.cells #[.bool g1, .slice A1 n1 C1, .int .i64 s1] 24)).heap[w.heap.size]? = some (.cells #[.bool g1, .slice A1 n1 C1, .int .i64 s1] 24) from by exact heap_alloc_new _ _)
  obtain ⟨k_i0, k_i1, k_i2, _, _, _⟩ := Er.block_cells B0_i.out
  go_wp2_with fail
  refine (G1.out _ Q0.out).mono ?_
  rintro e z1 ⟨a1x, c1, rfl, hx, hq⟩
  clear k_i0 k_i1 k_i2
  have B1_i := Lib.hid ((Q.block hq (lt_of_block B0_i.out)).trans B0_i.out)
  clear B0_i
  have Q1 := Lib.hid (Q.trans Q0.out hq)
  clear Q0
  have L1_X := Lib.hid hx
  clear hx
  clear hq
  obtain ⟨k_i0, k_i1, k_i2, _, _, _⟩ := Er.block_cells B1_i.out
  go_wp2_with fail
  refine (RO.out _ _ L1_X.out).mono ?_
  rintro e z2 ⟨rfl, hq⟩
  clear k_i0 k_i1 k_i2
  have L2_X := Lib.hid (Lst.q L1_X.out hq)
  clear L1_X
  have B2_i := Lib.hid ((Q.block hq (lt_of_block B1_i.out)).trans B1_i.out)
  clear B1_i
  have Q2 := Lib.hid (Q.trans Q1.out hq)
  clear Q1
  clear hq
  obtain ⟨k_i0, k_i1, k_i2, _, _, _⟩ := Er.block_cells B2_i.out
  go_wp2_with fail
  refine (A9.out _).mono ?_
  rintro e y ⟨rfl, rfl⟩
  clear k_i0 k_i1 k_i2
  have hcv2 : (convert 30 9 (.slice (some ⟨z2.heap.size, 0, none⟩) 1 1)).run Try.prog ((z2).alloc (.cells #[.int .u8 a3] 5)).drew = .ok (.string cb) ((z2).alloc (.cells #[.int .u8 a3] 5)).drew := HCV.out (z2).drew
  go_upto_region 5 with fail
  go_cut [11] (fun sl wx => sl = .slice (some ⟨z2.heap.size + 1, 0, none⟩) 3 3 ∧ wx.heap[z2.heap.size + 1]? = some (.cells #[.string F, .string T, .string U] 9) ∧ Q z2 wx)
  case first =>
    go_region_with (first | (go_at_call 15; refine (FW.out _).mono ?_; rintro e y ⟨rfl, rfl⟩))
    all_goals
      go_wp2_with fail
      go_meet
      exact ⟨rfl, by rw [HU.out]; exact heap_alloc2_new _ _ _, (((Q.refl z2).alloc _).drew).alloc _⟩
  case rest =>
    obtain ⟨rfl, hblk, hqc⟩ := hcut
    have HBL := Lib.hid hblk
    have HQC := Lib.hid (Q2.out.trans hqc)
    have hcells : ∀ (i : Nat), i < 3 → ∃ zt, zt ∈ [F, T, U] ∧ ∀ u : World, u.heap[z2.heap.size + 1]? = some (.cells #[.string F, .string T, .string U] 9) → u.cell? ⟨z2.heap.size + 1, i, none⟩ = some (.string zt) := by
      intro i hi
      rcases (show i = 0 ∨ i = 1 ∨ i = 2 from by omega) with rfl | rfl | rfl
      · exact ⟨F, by simp, fun u h => by simp [World.cell?, h]⟩
      · exact ⟨T, by simp, fun u h => by simp [World.cell?, h]⟩
      · exact ⟨U, by simp, fun u h => by simp [World.cell?, h]⟩
    have HCL := Lib.hid hcells
    clear hcells hblk hqc hcv2 heA heB hA1 hB1 hss hw1
    go_wp2_with fail
    go_loopw [12] (fun iv wr => ∃ i : Nat, iv = .int .i64 i ∧ i ≤ 3 ∧ wr.heap[z2.heap.size + 1]? = some (.cells #[.string F, .string T, .string U] 9) ∧ Q w wr) (fun iv _ => 3 - (intOf iv).toNat)
    case atStart => exact ⟨0, rfl, by omega, HBL.out, HQC.out⟩
    case round =>
      obtain ⟨i, rfl, hi, hb, hq⟩ := hrel
      by_cases hlt : i < 3
      · have HB50 := Lib.hid hb
        have Q50 := Lib.hid hq
        clear hb hq
        obtain ⟨zt, hzm, hzc⟩ := HCL.out i hlt
        obtain ⟨gz, Zz, sz, ez, hzl, pp, rp⟩ := HPB.out zt hzm
        obtain ⟨zl, hzle⟩ : ∃ zl, Zz.length = zl := ⟨_, rfl⟩
        simp only [hzle] at pp rp
        have OPN := Lib.hid hzc
        have PP := Lib.hid pp
        have RP := Lib.hid rp
        have HZL := Lib.hid hzl
        have hlti : (i : Int) < 3 := by omega
        clear hzm hzc pp rp hzl hzle
        have j_s0 := OPN.out _ HB50.out
        go_wp2_with fail
        refine (PP.out _).mono ?_
        rintro e z51 ⟨a5, c5, rfl, hx, hq⟩
        clear j_s0
        have H51_s := Lib.hid ((Q.block hq (lt_of_block HB50.out)).trans HB50.out)
        clear HB50
        have Q51 := Lib.hid (Q.trans Q50.out hq)
        clear Q50
        have L51_A := Lib.hid hx
        clear hx
        clear hq
        have hq := (Q.refl z51).alloc (.cells #[.bool gz, .slice a5 zl c5, .int .i64 sz] 32)
        have hb := heap_alloc_new z51 (.cells #[.bool gz, .slice a5 zl c5, .int .i64 sz] 32)
        have L52_A := Lib.hid (Lst.q L51_A.out hq)
        clear L51_A
        have H52_s := Lib.hid ((Q.block hq (lt_of_block H51_s.out)).trans H51_s.out)
        clear H51_s
        have Q52 := Lib.hid (Q.trans Q51.out hq)
        clear Q51
        have B52_a := Lib.hid hb
        clear hb hq
        obtain ⟨k_a0, k_a1, k_a2, _, _, _⟩ := Er.block_cells B52_a.out
        have j_s0 := OPN.out _ H52_s.out
        go_wp2_with fail
        refine (RP.out _).mono ?_
        rintro e z53 ⟨a6, c6, rfl, hx, hq⟩
        clear k_a0 k_a1 k_a2 j_s0
        have L53_A := Lib.hid (Lst.q L52_A.out hq)
        clear L52_A
        have B53_a := Lib.hid ((Q.block hq (lt_of_block B52_a.out)).trans B52_a.out)
        clear B52_a
        have H53_s := Lib.hid ((Q.block hq (lt_of_block H52_s.out)).trans H52_s.out)
        clear H52_s
        have Q53 := Lib.hid (Q.trans Q52.out hq)
        clear Q52
        have L53_B := Lib.hid hx
        clear hx
        clear hq
        have hq := (Q.refl z53).alloc (.cells #[.bool gz, .slice a6 zl c6, .int .i64 sz] 24)
        have hb := heap_alloc_new z53 (.cells #[.bool gz, .slice a6 zl c6, .int .i64 sz] 24)
        have L54_A := Lib.hid (Lst.q L53_A.out hq)
        clear L53_A
        have L54_B := Lib.hid (Lst.q L53_B.out hq)
        clear L53_B
        have B54_a := Lib.hid ((Q.block hq (lt_of_block B53_a.out)).trans B53_a.out)
        clear B53_a
        have H54_s := Lib.hid ((Q.block hq (lt_of_block H53_s.out)).trans H53_s.out)
        clear H53_s
        have Q54 := Lib.hid (Q.trans Q53.out hq)
        clear Q53
        have B54_b := Lib.hid hb
        clear hb hq
        obtain ⟨k_a0, k_a1, k_a2, _, _, _⟩ := Er.block_cells B54_a.out
        obtain ⟨k_b0, k_b1, k_b2, _, _, _⟩ := Er.block_cells B54_b.out
        have j_s0 := OPN.out _ H54_s.out
        go_wp2_with fail
        have SQr := Lib.hid (fun u u' (k : Ep.SB2 ((z53.alloc (.cells #[.bool gz, .slice a6 zl c6, .int .i64 sz] 24))) (z51.heap.size) gz (.slice a5 zl c5) (sz) (z53.heap.size) gz (.slice a6 zl c6) (sz) u) (q : Q u u') => (Ep.SB2.of B54_a.out B54_b.out (k.here.trans q) : Ep.SB2 ((z53.alloc (.cells #[.bool gz, .slice a6 zl c6, .int .i64 sz] 24))) (z51.heap.size) gz (.slice a5 zl c5) (sz) (z53.heap.size) gz (.slice a6 zl c6) (sz) u'))
        have Kasr := Lib.hid (fun u g a n c s (k : Ep.SB2 ((z53.alloc (.cells #[.bool gz, .slice a6 zl c6, .int .i64 sz] 24))) (z51.heap.size) gz (.slice a5 zl c5) (sz) (z53.heap.size) gz (.slice a6 zl c6) (sz) u) => (by
          refine (Ep.as_sh u g a n c s).mono ?_
          rintro e w' ⟨rfl, hq⟩
          exact ⟨rfl, SQr.out _ _ k hq, fun v zs hl => hl.q hq⟩ : Calls Try.prog 19 #[.agg #[.bool g, .slice a n c, .int .i64 s]] u fun e w' => e = .returned (.agg #[.bool g, .slice a n c, .int .i64 s]) ∧ Ep.SB2 ((z53.alloc (.cells #[.bool gz, .slice a6 zl c6, .int .i64 sz] 24))) (z51.heap.size) gz (.slice a5 zl c5) (sz) (z53.heap.size) gz (.slice a6 zl c6) (sz) w' ∧ ∀ v zs, Lst u v zs → Lst w' v zs))
        have KSr := Lib.hid (fun u  (k : Ep.SB2 ((z53.alloc (.cells #[.bool gz, .slice a6 zl c6, .int .i64 sz] 24))) (z51.heap.size) gz (.slice a5 zl c5) (sz) (z53.heap.size) gz (.slice a6 zl c6) (sz) u) => (by
          refine (Ep.same_sh u gz a5 a6 zl c5 c6 sz Zz (L54_A.out.q k.here) (L54_B.out.q k.here) (by have := HZL.out; omega)).mono ?_
          rintro e w' ⟨rfl, hq⟩
          exact ⟨rfl, SQr.out _ _ k hq, fun v zs hl => hl.q hq⟩ : Calls Try.prog 18 #[.agg #[.bool gz, .slice a5 zl c5, .int .i64 sz], .agg #[.bool gz, .slice a6 zl c6, .int .i64 sz]] u fun e w' => e = .returned (.bool true) ∧ Ep.SB2 ((z53.alloc (.cells #[.bool gz, .slice a6 zl c6, .int .i64 sz] 24))) (z51.heap.size) gz (.slice a5 zl c5) (sz) (z53.heap.size) gz (.slice a6 zl c6) (sz) w' ∧ ∀ v zs, Lst u v zs → Lst w' v zs))
        have hst0 := Ep.SB2.of B54_a.out B54_b.out (Q.refl _)
        have hst := Ep.SB2.of B54_a.out B54_b.out ((Q.refl (z53.alloc (.cells #[.bool gz, .slice a6 zl c6, .int .i64 sz] 24))).drew)
        unfold Ep.SB2 at hst hst0
        go_region_held3 (fun u => u.cell? ⟨z51.heap.size, 0, none⟩ = some (.bool gz) ∧ (u.cell? ⟨z51.heap.size, 1, none⟩ = some (.slice a5 zl c5) ∧ (u.cell? ⟨z51.heap.size, 2, none⟩ = some (.int .i64 sz) ∧ (u.cell? ⟨z53.heap.size, 0, none⟩ = some (.bool gz) ∧ (u.cell? ⟨z53.heap.size, 1, none⟩ = some (.slice a6 zl c6) ∧ (u.cell? ⟨z53.heap.size, 2, none⟩ = some (.int .i64 sz) ∧ (Q (z53.alloc (.cells #[.bool gz, .slice a6 zl c6, .int .i64 sz] 24)) u))))))) (first | exact hst | exact hst0 | assumption) (first | ((go_at_call 19); refine (Kasr.out _ _ _ _ _ _ ?_).mono ?_; assumption; rintro e yr ⟨rfl, hS, hcar⟩; unfold Ep.SB2 at hS; skip) | ((go_at_call 18); refine (KSr.out _  ?_).mono ?_; assumption; rintro e yr ⟨rfl, hS, hcar⟩; unfold Ep.SB2 at hS; skip))
        clear k_a0 k_a1 k_a2 k_b0 k_b1 k_b2 j_s0
        have hqr : Q (z53.alloc (.cells #[.bool gz, .slice a6 zl c6, .int .i64 sz] 24)) _ := (show Ep.SB2 ((z53.alloc (.cells #[.bool gz, .slice a6 zl c6, .int .i64 sz] 24))) (z51.heap.size) gz (.slice a5 zl c5) (sz) (z53.heap.size) gz (.slice a6 zl c6) (sz) _ from hS).here
        clear hst hst0 hS hcar
        have HQE := Lib.hid (Q54.out.trans hqr)
        have HBE := Lib.hid ((Q.block hqr (lt_of_block H54_s.out)).trans H54_s.out)
        clear hqr
        go_wp2_with fail
        exact ⟨⟨i + 1, by go_num, by omega, HBE.out, HQE.out⟩, by simp [intOf]; omega⟩
      · have hi3 : i = 3 := by omega
        subst hi3
        have HQE := Lib.hid hq
        clear hq hb
        go_wp2_with fail
        refine (LV.out _).mono ?_
        rintro e z9 ⟨rfl, hq9⟩
        have HQ9 := Lib.hid (HQE.out.trans hq9)
        clear hq9
        go_wp2_with fail
        go_ret
        exact ⟨rfl, HQ9.out⟩

set_option maxRecDepth 100000 in
theorem lifted (os : Os) (started : os.Started) (H : Type) (enc : TypeId × Value → H) :
    ReturnsInHanded {} Try.checked os 3 .any (Rows.decimalParsesSpec.pre6 enc Try.prog Try.f3 Rows.decimalParsesRow.domain false) (Rows.decimalParsesSpec.post enc Try.prog Try.f3 false true false false) := by
  refine returnsInHanded_of_change (C := Try.checked) own started (by kernel_rfl) Try.func3
    (ChangeSpec.witness6 (enc := enc) (C := Try.checked) false ⟨#[], #[.string ByteArray.empty, .agg #[.bool false, .slice none 0 0, .int .i64 0], .int .i64 0, .int .u8 0], []⟩ 8 (by kernel_rfl) (by kernel_rfl) (by kernel_rfl) (by kernel_rfl)) ?_
  intro W base args ds gs before hval0 hW hcnd _
  have hval : ∀ (j : Nat) t v, Try.f3.params[j]? = some t → args[j]? = some v → Value.okWide Try.prog W .any base t v := hval0
  have hW' := hW
  obtain ⟨p, q, hA0, hV, rfl, hfz, hnd⟩ := hW
  have hA : DataW.TrodAll enc Try.prog W 0 (fun _ => true) true Try.f3.params.toList args.toList ds p := hA0
  rw [Try.params3] at hA hval
  obtain ⟨v0, vs0, d0, ds0, p0, q0, hargs, rfl, rfl, h0, r0⟩ := trodAll_cons hA
  obtain ⟨v1, vs1, d1, ds1, p1, q1, rfl, rfl, rfl, h1, r1⟩ := trodAll_cons r0
  obtain ⟨v2, vs2, d2, ds2, p2, q2, rfl, rfl, rfl, h2, r2⟩ := trodAll_cons r1
  obtain ⟨v3, vs3, d3, ds3, p3, q3, rfl, rfl, rfl, h3, r3⟩ := trodAll_cons r2
  obtain ⟨rfl, rfl, rfl⟩ := trodAll_nil r3
  obtain rfl : args = #[v0, v1, v2, v3] := by cases args; simp_all
  obtain ⟨rfl, rfl⟩ := trodVars_none hV
  obtain ⟨a0, rfl, rfl, rfl, w0⟩ := open_string Try.underlying9 (hval 0 9 v0 rfl rfl) h0
  have k1 := h1
  have lt1 : ∀ x ∈ p1, x.block < W.heap.size := by obtain ⟨m, hm⟩ := k1; exact DataW.trod_lt m _ _ _ hm
  obtain ⟨c10, c11, c12, y10, y11, y12, m1, rfl, _, _, hy10, hy11, hy12⟩ := Joins.open_agg3 Try.underlying24 (by kernel_rfl) (by kernel_rfl) (hval 1 24 v1 rfl rfl) h1
  obtain ⟨g1, rfl⟩ : ∃ b, c10 = .bool b := by
    obtain ⟨b, h, _⟩ := DataW.trod_bool Try.underlying4 hy10
    exact ⟨b, by simpa using h⟩
  obtain ⟨s1, rfl, ws1⟩ : ∃ n, c12 = .int .i64 n ∧ (Lit.int .i64 n).wf = true := by
    obtain ⟨n, h, _, hw⟩ := DataW.trod_int Try.underlying3 hy12
    exact ⟨n, by simpa using h, hw⟩
  obtain ⟨a1, len1, cap1, z1, rfl, w1⟩ : ∃ a len cap zs, c11 = .slice a len cap ∧ IsRow .i64 W a len cap zs := by
    rcases open_ints Try.underlying22 Try.underlying3 (by kernel_rfl) hy11 with ⟨hcs, _⟩ | ⟨x, l, c, zs, hcs, _, hl, hm, hz, _, hcell, hwz⟩
    · exact ⟨none, 0, 0, [], by simpa using hcs, .inl ⟨rfl, rfl, rfl, rfl⟩⟩
    · exact ⟨some x, l, c, zs, by simpa using hcs, .inr ⟨_, rfl, hl, hm, by simpa using hz, hcell, hwz⟩⟩
  obtain ⟨xs1, l1, _, b1⟩ := w1.lst
  obtain ⟨a2, rfl, rfl, rfl, w2⟩ := open_int Try.underlying3 (hval 2 3 v2 rfl rfl) h2
  obtain ⟨a3, rfl, rfl, rfl, w3⟩ := open_int Try.underlying5 (hval 3 5 v3 rfl rfl) h3
  clear hA0 hval0
  refine (walk W a0 w0 g1 (.slice a1 len1 cap1) xs1 l1 b1 s1 (bounds_i64 ws1) a2 (bounds_i64 w2) a3 (bounds_u8 w3)).mono fun e W' ⟨he, bel⟩ => ?_
  subst he
  exact ⟨_, rfl, _, _, _, [], _, [], hW', trodAll_mk1 (shut_bool Try.underlying4 _), (trodAll_cons_mk (shut_string Try.underlying9 w0) (trodAll_cons_mk (Below.trod laidOut (by kernel_rfl) (of_decide_eq_true (by kernel_rfl)) k1 bel lt1) (trodAll_cons_mk (shut_int Try.underlying3 w2) (trodAll_cons_mk (shut_int Try.underlying5 w3) trodAll_mk0)))), rfl, bel.below.frame _, fun h => by cases h⟩

/-- The statement. -/
theorem proved : Rows.DecimalParsesSaid :=
  OpenClaim.holds_of_wide 3 Try.f3 rfl rfl rfl rfl rfl rfl rfl ⟨rfl, rfl, rfl, rfl, rfl⟩ rfl rfl rfl rfl rfl (by kernel_rfl) Try.func3 (by kernel_rfl)
    (of_decide_eq_true (by kernel_rfl)) (by unfold Func.isWrapper; first | (rw [if_pos (by decide +kernel)]; kernel_rfl) | (rw [if_neg (by decide +kernel)]; exact ⟨rfl, rfl⟩))
    (fun os started H enc _ => lifted os started H enc)
#print axioms proved
end Go.Proofs.Ytilbefdeanhnpaa.decimalParses
