/- SystemReads: of whatever number (made a name), whatever text (the first 40 bytes), digits' text (the first 12 numbers, made such), of which one byte is another one, and whatever text (the first 12 bytes) as a name, the digits of bytes are the document's, or refused; no conditions. -/
import Derived.Test.YtaonjhhpiihejaaRows
import Derived.WalkKit
import Derived.ProofKit
import Derived.OpenShut
import Derived.ShutString
import Derived.ChangeOld
import Derived.Below
import Derived.Lib.SmallJoins
import Derived.Test.YtaonjhhpiihejaaInts
import Derived.Test.YtaonjhhpiihejaaUtfM
import Derived.Test.YtaonjhhpiihejaaUtfG
import Derived.Test.YtaonjhhpiihejaaUtfR
import Derived.Test.YtaonjhhpiihejaaUtfW
import Derived.Test.YtaonjhhpiihejaaEls
import Derived.Test.YtaonjhhpiihejaaDigM
import Derived.Test.YtaonjhhpiihejaaDigL
import Derived.Test.YtaonjhhpiihejaaDigR
import Derived.Test.YtaonjhhpiihejaaDigW
import Derived.Test.YtaonjhhpiihejaaSysM
import Derived.Test.YtaonjhhpiihejaaSysN
import Derived.Test.YtaonjhhpiihejaaSysP
import Derived.Test.YtaonjhhpiihejaaSysQ
import Derived.Test.YtaonjhhpiihejaaSysR
import Derived.Test.YtaonjhhpiihejaaSysT
import Derived.Test.YtaonjhhpiihejaaSysU
set_option linter.unusedVariables false
set_option linter.unusedSimpArgs false
namespace Go.Proofs.Ytaonjhhpiihejaa.systemReads
open Go.ChangeShapes Go.WideShapes Go.ChangeAt Go.RowKit
open Go.ChangeMaps (open_string shut_string)

theorem own : ownKnob Try.prog.godebug = none := by kernel_rfl
theorem laidOut : laidOutB Try.prog = true := by kernel_rfl

open Sm Um

set_option maxHeartbeats 8000000 in
set_option maxRecDepth 100000 in
theorem walk (w : World) (a0 : Int) (w0 : -9223372036854775808 ≤ a0 ∧ a0 ≤ 9223372036854775807) (a1 : ByteArray) (w1 : a1.size ≤ maxLen) (v2 : Value) (xs2 : List Int) (w2 : Lst w v2 xs2) (b2 : ∀ n ∈ xs2, -9223372036854775808 ≤ n ∧ n ≤ 9223372036854775807) (a3 : Int) (w3 : -9223372036854775808 ≤ a3 ∧ a3 ≤ 9223372036854775807) (a4 : Int) (w4 : 0 ≤ a4 ∧ a4 ≤ 255) (a5 : ByteArray) (w5 : a5.size ≤ maxLen) :
    Calls Try.prog 6 #[.int .i64 a0, .string a1, v2, .int .i64 a3, .int .u8 a4, .string a5] w fun e w' => e = .returned (.bool true) ∧ Q w w' := by
  have F_s := Lib.hid (fun w => Ur.few_any a1 40 w w1 (by omega))
  have hs_s := Ur.few_size a1 40
  generalize Ur.few a1 40 = s at *
  have hm_s : s.size ≤ maxLen := by unfold maxLen; omega
  have hg_s : s.size ≤ 1073741824 := by omega
  have F_t := Lib.hid (fun w => Ur.few_any a5 12 w w5 (by omega))
  have hs_t := Ur.few_size a5 12
  generalize Ur.few a5 12 = t at *
  have hm_t : t.size ≤ maxLen := by unfold maxLen; omega
  have hg_t : t.size ≤ 1073741824 := by omega
  have NM_p := fun w => Sr.name_any a0 w w0.1 w0.2
  obtain ⟨p, z, hp_p, hz_p, hb_p, hs_p, _⟩ := Sr.made a0
  rw [← hp_p] at NM_p
  have N_p := Lib.hid NM_p
  have hm_p : p.size ≤ maxLen := by unfold maxLen; omega
  have hn_p : z ≠ -1 := by omega
  clear NM_p hp_p
  obtain ⟨ad2, cp2, rfl, hlc2, hcm2⟩ := w2.shape2
  unfold maxLen at hcm2
  have hbig2 : xs2.length ≤ 9223372036854775807 := by omega
  have G2 := Lib.hid (fun w' (q : Q w w') => Dr.good_any _ xs2 12 w' (w2.q q) hbig2 (by omega) b2)
  have hXM2 : (Dm.gdL xs2 12).length ≤ 12 := by rw [Dm.gdL_len]; omega
  have kX2 := Dm.gdL_ok xs2 12
  generalize Dm.gdL xs2 12 = X2 at *
  obtain ⟨l2, hl2⟩ : ∃ l, l = xs2.length := ⟨_, rfl⟩
  rw [← hl2] at hlc2 G2 hbig2 ⊢
  have A1 := fun v w h => Sr.shape_any p v X2 w h (by omega)
  rw [hz_p] at A1
  have hsy := shS_ok_len hn_p kX2
  have hos : (⟨(shS z X2).toArray⟩ : ByteArray).size ≤ 48 := by
    rw [← size_list]
    show (shS z X2).length ≤ _
    omega
  generalize (⟨(shS z X2).toArray⟩ : ByteArray) = T at *
  generalize shE z X2 = E0 at *
  have H1 := Lib.hid A1
  clear A1 hsy hXM2 kX2 w2 b2 hl2 hz_p hb_p hn_p
  obtain ⟨m, hm⟩ : ∃ m, m = T.size := ⟨_, rfl⟩
  have hMT := Lib.hid hm
  rw [← hm] at hos
  have hcase : (m = 0 ∧ Hid (T.toList.isEmpty = true)) ∨ (0 < m ∧ Hid (T.toList.isEmpty = false)) := by
    rcases Nat.eq_zero_or_pos m with h | h
    · refine .inl ⟨h, Lib.hid ?_⟩
      have : T.data.toList = [] := by apply List.eq_nil_of_length_eq_zero; rw [size_list]; omega
      rw [Sr.toL_eq, this]; rfl
    · refine .inr ⟨h, Lib.hid ?_⟩
      have : T.data.toList ≠ [] := by intro h2; have h3 := size_list T; rw [h2, List.length_nil] at h3; omega
      rw [Sr.toL_eq]; simpa using this
  clear hm
  rcases hcase with ⟨hm0, HEM⟩ | ⟨hm0, HEM⟩
  · have hE := HEM.out
    have hE2 : (T.toList == []) = true := by cases h : T.toList with | nil => rfl | cons a b => rw [h] at hE; cases hE
    go_enter Try.func6, Try.ntmps6
    have Q0 := Lib.hid (Q.refl w)
    go_wp2_with fail
    refine (N_p.out _).mono ?_
    rintro e z1 ⟨rfl, hq⟩
    have Q1 := Lib.hid (Q0.out.trans hq)
    clear hq Q0
    go_wp2_with fail
    refine (F_s.out _).mono ?_
    rintro e y0 ⟨rfl, rfl⟩
    go_wp2_with fail
    refine ((G2.out _ Q1.out)).mono ?_
    rintro e z2 ⟨u_X, rfl, hu, hq⟩
    have L2_X := Lib.hid (fun w' (q : Q z2 w') => Lst.q hu.lst q)
    clear hu
    have Q2 := Lib.hid (Q1.out.trans hq)
    clear hq Q1
    go_wp2_with fail
    refine (H1.out _ _ (L2_X.out _ (Q.refl _))).mono ?_
    rintro e z3 ⟨rfl, hq⟩
    have L3_X := Lib.hid (fun w' (q : Q z3 w') => L2_X.out w' (hq.trans q))
    clear L2_X
    have Q3 := Lib.hid (Q2.out.trans hq)
    clear hq Q2
    have hal : GLst Value.string (z3.alloc (.cells #[.string s, .string T] 9)) (.slice (some ⟨z3.heap.size, 0, none⟩) 2 2) [s, T] := GLst.made Value.string 9 z3 [s, T] 2 rfl (by unfold maxLen; omega)
    have hqa : Q w (z3.alloc (.cells #[.string s, .string T] 9)) := Q3.out.alloc _
    have hga : z3.heap.size < (z3.alloc (.cells #[.string s, .string T] 9)).heap.size := by simp
    go_upto_region 8 with fail
    generalize hWA : z3.alloc (.cells #[.string s, .string T] 9) = za at hal hqa hga ⊢
    generalize hgg : z3.heap.size = ga at hal hga ⊢
    have HQA := Lib.hid hqa
    clear hWA hgg hqa
    have hat : ∀ u, Q za u → ∀ i : Nat, i < 2 → ∃ zi : ByteArray, zi.size ≤ 1000 ∧ u.cell? ⟨ga, i, none⟩ = some (.string zi) := by
      intro u hu i hi
      obtain ⟨x, hx⟩ : ∃ x, [s, T][i]? = some x := ⟨_, List.getElem?_eq_getElem (by simpa using hi)⟩
      obtain ⟨g, off, cap, hv, _, _, _, hc⟩ := GLst.cellOf (GLst.q hal hu) (n := 2) rfl hx
      cases hv
      rw [Nat.zero_add] at hc
      refine ⟨x, ?_, hc⟩
      have hmem := List.mem_of_getElem? hx
      simp only [List.mem_cons, List.not_mem_nil, or_false] at hmem
      rcases hmem with rfl | rfl <;> (have := hMT.out; omega)
    have HAT := Lib.hid hat
    clear hat
    go_wp2_with fail
    refine (F_t.out _).mono ?_
    rintro e yt ⟨rfl, rfl⟩
    have hnl := GLst.made Value.string 9 za [p, t] 2 rfl (by unfold maxLen; omega)
    have hqn : Q w (za.alloc (.cells #[.string p, .string t] 9)) := HQA.out.alloc _
    have hgn0 : za.heap.size < (za.alloc (.cells #[.string p, .string t] 9)).heap.size := by simp
    have hqz : Q za (za.alloc (.cells #[.string p, .string t] 9)) := (Q.refl _).alloc _
    have hga0 : ga < (za.alloc (.cells #[.string p, .string t] 9)).heap.size := Nat.lt_of_lt_of_le hga hqz.le
    have hnl2 : GLst Value.string (za.alloc (.cells #[.string p, .string t] 9)) (.slice (some ⟨za.heap.size, 0, none⟩) 2 2) [p, t] := hnl
    clear hnl
    go_wp2_with fail
    generalize hW : za.alloc (.cells #[.string p, .string t] 9) = W at hnl2 hqn hgn0 hqz hga0 ⊢
    generalize hgn : za.heap.size = gn at hnl2 hgn0 ⊢
    have hnt : ∀ u, Q W u → ∀ j : Nat, j < 2 → ∃ nj : ByteArray, nj.size ≤ 1000 ∧ u.cell? ⟨gn, j, none⟩ = some (.string nj) := by
      intro u hu i hi
      obtain ⟨x, hx⟩ : ∃ x, [p, t][i]? = some x := ⟨_, List.getElem?_eq_getElem (by simpa using hi)⟩
      obtain ⟨g, off, cap, hv, _, _, _, hc⟩ := GLst.cellOf (GLst.q hnl2 hu) (n := 2) rfl hx
      cases hv
      rw [Nat.zero_add] at hc
      refine ⟨x, ?_, hc⟩
      have hmem := List.mem_of_getElem? hx
      simp only [List.mem_cons, List.not_mem_nil, or_false] at hmem
      rcases hmem with rfl | rfl <;> omega
    have HNT := Lib.hid hnt
    have HAW := Lib.hid (fun u (hu : Q W u) => HAT.out u (hqz.trans hu))
    have HQN := Lib.hid hqn
    clear hnt hW hgn hnl2 hqn hqz HAT
    go_loopw [19] (fun iv wr => ∃ i : Nat, iv = .int .i64 i ∧ i ≤ 2 ∧ Q W wr) (fun iv _ => 2 - (intOf iv).toNat)
    case atStart => exact ⟨0, rfl, by omega, Q.refl _⟩
    case round =>
      obtain ⟨i, rfl, hi, hq⟩ := hrel
      by_cases hlt : i < 2
      · obtain ⟨zi, hzs, hzc⟩ : ∃ zi : ByteArray, zi.size ≤ 1000 ∧ ∀ u, Q W u → u.cell? ⟨ga, i, none⟩ = some (.string zi) := by
          obtain ⟨zi, h1, h2⟩ := HAW.out W (Q.refl W) i hlt
          exact ⟨zi, h1, fun u hu => (World.cell?_of_block (w := W) (hu.block hga0)).trans h2⟩
        have HZC := Lib.hid hzc
        clear hzc
        have hlti : (i : Int) < 2 := by omega
        go_wp2_with fail
        go_loopw [20] (fun jv wx => ∃ j : Nat, jv = .int .i64 j ∧ j ≤ 2 ∧ Q W wx) (fun jv _ => 2 - (intOf jv).toNat)
        case atStart => exact ⟨0, rfl, by omega, hq⟩
        case round =>
          obtain ⟨j, rfl, hj, hqx⟩ := hrel
          by_cases hjt : j < 2
          · obtain ⟨nj, hns, hnc⟩ := HNT.out wr hqx j hjt
            have hzc := HZC.out wr hqx
            have hst : wr.cell? ⟨gn, j, none⟩ = some (.string nj) ∧ (wr.cell? ⟨ga, i, none⟩ = some (.string zi) ∧ Q W wr) := ⟨hnc, hzc, hqx⟩
            have hst0 : wr.drew.cell? ⟨gn, j, none⟩ = some (.string nj) ∧ (wr.drew.cell? ⟨ga, i, none⟩ = some (.string zi) ∧ Q W wr.drew) := ⟨hnc, hzc, hqx.drew⟩
            have K1 := Lib.hid (Sy.readS W gn j ga i nj zi hgn0 hga0 hns hzs)
            have K2 := Lib.hid (Sy.rreadS W gn j ga i nj zi hgn0 hga0 hzs)
            have K3 := Lib.hid (Sy.rd_same nj zi hzs)
            generalize rdE (nz nj.data.toList) (allL zi.data.toList) = EE at *
            generalize rdL (nz nj.data.toList) (allL zi.data.toList) = LL at *
            clear hnc hzc
            have hjti : (j : Int) < 2 := by omega
            go_wp2_with fail
            go_region_held3 (fun u => u.cell? ⟨gn, j, none⟩ = some (.string nj) ∧ (u.cell? ⟨ga, i, none⟩ = some (.string zi) ∧ Q W u)) (first | exact hst | exact hst0 | assumption) ((go_at_call 25; refine (K1.out _ ?_).mono ?_; assumption; rintro e y1 ⟨v1, rfl, hv1, hS1⟩; unfold Sy.SR at hS1; skip))
            have hS1d : y1.drew.cell? ⟨gn, j, none⟩ = some (.string nj) ∧ (y1.drew.cell? ⟨ga, i, none⟩ = some (.string zi) ∧ Q W y1.drew) := ⟨hS1.1, hS1.2.1, hS1.2.2.drew⟩
            have hv1d : Lst y1.drew v1 LL := hv1.q (Q.refl _).drew
            have HV1 := Lib.hid hv1d
            clear hst hst0 hv1 hv1d
            go_wp2_with fail
            go_region_held3 (fun u => u.cell? ⟨gn, j, none⟩ = some (.string nj) ∧ (u.cell? ⟨ga, i, none⟩ = some (.string zi) ∧ Q W u)) (first | exact hS1 | exact hS1d | assumption) ((go_at_call 27; refine (K2.out v1 LL _ ?_ HV1.out).mono ?_; assumption; rintro e y2 ⟨v2, rfl, hv2, hv12, hS2⟩; unfold Sy.SR at hS2; skip))
            have HQ2 := Lib.hid hS2.2.2
            have HV2 := Lib.hid hv2
            have HV3 := Lib.hid hv12
            clear hS1 hS1d hS2 hv2 hv12 HV1
            go_wp2_with fail
            refine (K3.out _ _ _ HV3.out HV2.out).mono ?_
            rintro e y3 ⟨rfl, hq3⟩
            have HQ3 := Lib.hid (HQ2.out.trans hq3)
            clear hq3
            go_wp2_with fail
            go_roundw
            case rel => exact ⟨j + 1, by go_num, by omega, HQ3.out⟩
            case measure => simp [intOf]; omega
          · go_wp2_with fail
            go_roundw
            case rel => exact ⟨i + 1, by go_num, by omega, hqx⟩
            case measure => simp [intOf]; omega
      · go_wp2_with fail
        refine (Sr.lives_any _).mono ?_
        rintro e y3 ⟨rfl, hq3⟩
        go_wp2_with fail
        go_ret
        exact ⟨rfl, (HQN.out.trans hq).trans hq3⟩

  · have hE := HEM.out
    have hE2 : (T.toList == []) = false := by cases h : T.toList with | nil => rw [h] at hE; cases hE | cons a b => rfl
    have hTs : T.size = m := hMT.out.symm
    have K0 := fun w => Ur.around_any a3 m w w3.1 w3.2 (by omega) (by omega)
    have hkb := around_bd a3 m (by omega)
    obtain ⟨k, hk⟩ : ∃ k : Nat, around a3 m = (k : Int) := ⟨(around a3 m).toNat, by omega⟩
    rw [hk] at hkb
    simp only [hk] at K0
    have hK := Lib.hid K0
    have hkm : k < m := by omega
    obtain ⟨k1, hk1⟩ : ∃ k1, k1 = k + 1 := ⟨_, rfl⟩
    have hw1 : IntKind.i64.wrap ((k : Int) + 1) = (k1 : Int) := by rw [Sy.wrapI (by omega) (by omega)]; omega
    have hcv := fun u => Ur.convN u [a4] 1 rfl
    simp only [List.map_cons, List.map_nil] at hcv
    have hss : (strOfNums [a4]).size = 1 := strOfNums_size _
    generalize strOfNums [a4] = cb at *
    have hA1 : (T.extract 0 k).size = k := by rw [ByteArray.size_extract]; omega
    have hB1 : (T.extract k1 m).size = m - k1 := by rw [ByteArray.size_extract]; omega
    obtain ⟨A, heA⟩ : ∃ A, T.extract 0 k = A := ⟨_, rfl⟩
    obtain ⟨Bz, heB⟩ : ∃ B, T.extract k1 m = B := ⟨_, rfl⟩
    rw [heA] at hA1
    rw [heB] at hB1
    have hsz1 : k + 1 ≤ 9223372036854775807 := by omega
    have hsz2 : k + 1 + (m - k1) ≤ 9223372036854775807 := by omega
    have hsz3 : ¬ 9223372036854775807 < k + 1 := by omega
    have hsz4 : ¬ 9223372036854775807 < k + 1 + (m - k1) := by omega
    have hkm1 : (k : Int) ≤ (m : Int) := by omega
    have hkm2 : (k1 : Int) ≤ (m : Int) := by omega
    have hkm3 : k ≤ m := by omega
    have hkm4 : k1 ≤ m := by omega
    obtain ⟨U, hU⟩ : ∃ U, U = A ++ cb ++ Bz := ⟨_, rfl⟩
    have hUs : U.size ≤ 60 := by rw [hU, ByteArray.size_append, ByteArray.size_append]; omega
    have HU := Lib.hid hU
    have HCV := Lib.hid hcv
    clear K0 hk hk1 hU hcv
    go_enter Try.func6, Try.ntmps6
    have Q0 := Lib.hid (Q.refl w)
    go_wp2_with fail
    refine (N_p.out _).mono ?_
    rintro e z1 ⟨rfl, hq⟩
    have Q1 := Lib.hid (Q0.out.trans hq)
    clear hq Q0
    go_wp2_with fail
    refine (F_s.out _).mono ?_
    rintro e y0 ⟨rfl, rfl⟩
    go_wp2_with fail
    refine ((G2.out _ Q1.out)).mono ?_
    rintro e z2 ⟨u_X, rfl, hu, hq⟩
    have L2_X := Lib.hid (fun w' (q : Q z2 w') => Lst.q hu.lst q)
    clear hu
    have Q2 := Lib.hid (Q1.out.trans hq)
    clear hq Q1
    go_wp2_with fail
    refine (H1.out _ _ (L2_X.out _ (Q.refl _))).mono ?_
    rintro e z3 ⟨rfl, hq⟩
    have L3_X := Lib.hid (fun w' (q : Q z3 w') => L2_X.out w' (hq.trans q))
    clear L2_X
    have Q3 := Lib.hid (Q2.out.trans hq)
    clear hq Q2
    have hal : SOwn (z3.alloc (.cells #[.string s, .string T] 9)) z3.heap.size (.slice (some ⟨z3.heap.size, 0, none⟩) 2 2) [s, T] := Sy.sown_made z3 _ [s, T] 2 rfl (by unfold maxLen; omega) (Nat.le_refl _)
    have hqa : Q z3 (z3.alloc (.cells #[.string s, .string T] 9)) := (Q.refl _).alloc _
    go_wp2_with fail
    refine (hK.out _).mono ?_
    rintro e yk ⟨rfl, rfl⟩
    go_upto_region 7 with fail
    generalize hWA : z3.alloc (.cells #[.string s, .string T] 9) = za at hal hqa ⊢
    have HZA := Lib.hid (show Q w za from Q3.out.trans hqa)
    have hzl : z3.heap.size ≤ za.heap.size := hqa.le
    generalize hgg : z3.heap.size = ga at hal hzl ⊢
    have hzw : w.heap.size ≤ ga := by rw [← hgg]; exact Q3.out.le
    have hcv2 : (convert 46 9 (.slice (some ⟨za.heap.size, 0, none⟩) 1 1)).run Try.prog (za.alloc (.cells #[.int .u8 a4] 5)).drew = .ok (.string cb) (za.alloc (.cells #[.int .u8 a4] 5)).drew := HCV.out za.drew
    have hod : ∀ u, Q za u → SOwn u ga _ [s, T] := fun u hu => hal.q hu
    have HOD := Lib.hid hod
    have HZS : Hid ((za.alloc (.cells #[.int .u8 a4] 5)).drew.heap.size = za.heap.size + 1) := Lib.hid (by simp)
    clear hWA hgg hqa hal hod
    go_cut [16] (fun sl wx => ∃ g c, sl = .slice (some ⟨g, 0, none⟩) 3 c ∧ SLst wx (.slice (some ⟨g, 0, none⟩) 3 c) [s, T, U] ∧ g < wx.heap.size ∧ Q w wx)
    case first =>
      go_region_law ((refine Sy.gpush_step (u := (za.alloc (.cells #[.int .u8 a4] 5)).drew) elemS (HOD.out _ (((Q.refl za).alloc _).drew)) (by rfl) _ _ (by rfl) (A ++ cb ++ Bz) rfl (by rfl) (by rw [HZS.out]; rfl) (show 2 < 1099511627776 by omega) (Nat.le_trans hzl (((Q.refl za).alloc _).drew).le) ?_; intro g4 c4 w4 hown4 hg4))
      all_goals
        go_wp2_with fail
        go_meet
        exact ⟨g4, c4, rfl, by rw [HU.out]; exact hown4.lst, (hown4.lt g4 rfl).2, (HZA.out.trans (((Q.refl za).alloc _).drew)).grown hg4 (fun j h => by cases h; exact hzw)⟩
    case rest =>
      obtain ⟨ga, ca, rfl, hal, hga, hqa⟩ := hcut
      have HQA := Lib.hid hqa
      clear hqa heA heB hA1 hB1 hss hw1 hcv2 hsz1 hsz2 hsz3 hsz4 HOD HZS HZA hzl hzw hkm1 hkm2 hkm3 hkm4 HCV HU
      have hat : ∀ u, Q wc u → ∀ i : Nat, i < 3 → ∃ zi : ByteArray, zi.size ≤ 1000 ∧ u.cell? ⟨ga, i, none⟩ = some (.string zi) := by
        intro u hu i hi
        obtain ⟨x, hx⟩ : ∃ x, [s, T, U][i]? = some x := ⟨_, List.getElem?_eq_getElem (by simpa using hi)⟩
        obtain ⟨g, off, cap, hv, _, _, _, hc⟩ := GLst.cellOf (GLst.q hal hu) (n := 3) rfl hx
        cases hv
        rw [Nat.zero_add] at hc
        refine ⟨x, ?_, hc⟩
        have hmem := List.mem_of_getElem? hx
        simp only [List.mem_cons, List.not_mem_nil, or_false] at hmem
        rcases hmem with rfl | rfl | rfl <;> (have := hMT.out; omega)
      have HAT := Lib.hid hat
      clear hat
      go_wp2_with fail
      refine (F_t.out _).mono ?_
      rintro e yt ⟨rfl, rfl⟩
      have hnl := GLst.made Value.string 9 wc [p, t] 2 rfl (by unfold maxLen; omega)
      have hqn : Q w (wc.alloc (.cells #[.string p, .string t] 9)) := HQA.out.alloc _
      have hgn0 : wc.heap.size < (wc.alloc (.cells #[.string p, .string t] 9)).heap.size := by simp
      have hqz : Q wc (wc.alloc (.cells #[.string p, .string t] 9)) := (Q.refl _).alloc _
      have hga0 : ga < (wc.alloc (.cells #[.string p, .string t] 9)).heap.size := Nat.lt_of_lt_of_le hga hqz.le
      have hnl2 : GLst Value.string (wc.alloc (.cells #[.string p, .string t] 9)) (.slice (some ⟨wc.heap.size, 0, none⟩) 2 2) [p, t] := hnl
      clear hnl
      go_wp2_with fail
      generalize hW : wc.alloc (.cells #[.string p, .string t] 9) = W at hnl2 hqn hgn0 hqz hga0 ⊢
      generalize hgn : wc.heap.size = gn at hnl2 hgn0 ⊢
      have hnt : ∀ u, Q W u → ∀ j : Nat, j < 2 → ∃ nj : ByteArray, nj.size ≤ 1000 ∧ u.cell? ⟨gn, j, none⟩ = some (.string nj) := by
        intro u hu i hi
        obtain ⟨x, hx⟩ : ∃ x, [p, t][i]? = some x := ⟨_, List.getElem?_eq_getElem (by simpa using hi)⟩
        obtain ⟨g, off, cap, hv, _, _, _, hc⟩ := GLst.cellOf (GLst.q hnl2 hu) (n := 2) rfl hx
        cases hv
        rw [Nat.zero_add] at hc
        refine ⟨x, ?_, hc⟩
        have hmem := List.mem_of_getElem? hx
        simp only [List.mem_cons, List.not_mem_nil, or_false] at hmem
        rcases hmem with rfl | rfl <;> omega
      have HNT := Lib.hid hnt
      have HAW := Lib.hid (fun u (hu : Q W u) => HAT.out u (hqz.trans hu))
      have HQN := Lib.hid hqn
      clear hnt hW hgn hnl2 hqn hqz HAT
      go_loopw [19] (fun iv wr => ∃ i : Nat, iv = .int .i64 i ∧ i ≤ 3 ∧ Q W wr) (fun iv _ => 3 - (intOf iv).toNat)
      case atStart => exact ⟨0, rfl, by omega, Q.refl _⟩
      case round =>
        obtain ⟨i, rfl, hi, hq⟩ := hrel
        by_cases hlt : i < 3
        · obtain ⟨zi, hzs, hzc⟩ : ∃ zi : ByteArray, zi.size ≤ 1000 ∧ ∀ u, Q W u → u.cell? ⟨ga, i, none⟩ = some (.string zi) := by
            obtain ⟨zi, h1, h2⟩ := HAW.out W (Q.refl W) i hlt
            exact ⟨zi, h1, fun u hu => (World.cell?_of_block (w := W) (hu.block hga0)).trans h2⟩
          have HZC := Lib.hid hzc
          clear hzc
          have hlti : (i : Int) < 3 := by omega
          go_wp2_with fail
          go_loopw [20] (fun jv wx => ∃ j : Nat, jv = .int .i64 j ∧ j ≤ 2 ∧ Q W wx) (fun jv _ => 2 - (intOf jv).toNat)
          case atStart => exact ⟨0, rfl, by omega, hq⟩
          case round =>
            obtain ⟨j, rfl, hj, hqx⟩ := hrel
            by_cases hjt : j < 2
            · obtain ⟨nj, hns, hnc⟩ := HNT.out wr hqx j hjt
              have hzc := HZC.out wr hqx
              have hst : wr.cell? ⟨gn, j, none⟩ = some (.string nj) ∧ (wr.cell? ⟨ga, i, none⟩ = some (.string zi) ∧ Q W wr) := ⟨hnc, hzc, hqx⟩
              have hst0 : wr.drew.cell? ⟨gn, j, none⟩ = some (.string nj) ∧ (wr.drew.cell? ⟨ga, i, none⟩ = some (.string zi) ∧ Q W wr.drew) := ⟨hnc, hzc, hqx.drew⟩
              have K1 := Lib.hid (Sy.readS W gn j ga i nj zi hgn0 hga0 hns hzs)
              have K2 := Lib.hid (Sy.rreadS W gn j ga i nj zi hgn0 hga0 hzs)
              have K3 := Lib.hid (Sy.rd_same nj zi hzs)
              generalize rdE (nz nj.data.toList) (allL zi.data.toList) = EE at *
              generalize rdL (nz nj.data.toList) (allL zi.data.toList) = LL at *
              clear hnc hzc
              have hjti : (j : Int) < 2 := by omega
              go_wp2_with fail
              go_region_held3 (fun u => u.cell? ⟨gn, j, none⟩ = some (.string nj) ∧ (u.cell? ⟨ga, i, none⟩ = some (.string zi) ∧ Q W u)) (first | exact hst | exact hst0 | assumption) ((go_at_call 25; refine (K1.out _ ?_).mono ?_; assumption; rintro e y1 ⟨v1, rfl, hv1, hS1⟩; unfold Sy.SR at hS1; skip))
              have hS1d : y1.drew.cell? ⟨gn, j, none⟩ = some (.string nj) ∧ (y1.drew.cell? ⟨ga, i, none⟩ = some (.string zi) ∧ Q W y1.drew) := ⟨hS1.1, hS1.2.1, hS1.2.2.drew⟩
              have hv1d : Lst y1.drew v1 LL := hv1.q (Q.refl _).drew
              have HV1 := Lib.hid hv1d
              clear hst hst0 hv1 hv1d
              go_wp2_with fail
              go_region_held3 (fun u => u.cell? ⟨gn, j, none⟩ = some (.string nj) ∧ (u.cell? ⟨ga, i, none⟩ = some (.string zi) ∧ Q W u)) (first | exact hS1 | exact hS1d | assumption) ((go_at_call 27; refine (K2.out v1 LL _ ?_ HV1.out).mono ?_; assumption; rintro e y2 ⟨v2, rfl, hv2, hv12, hS2⟩; unfold Sy.SR at hS2; skip))
              have HQ2 := Lib.hid hS2.2.2
              have HV2 := Lib.hid hv2
              have HV3 := Lib.hid hv12
              clear hS1 hS1d hS2 hv2 hv12 HV1
              go_wp2_with fail
              refine (K3.out _ _ _ HV3.out HV2.out).mono ?_
              rintro e y3 ⟨rfl, hq3⟩
              have HQ3 := Lib.hid (HQ2.out.trans hq3)
              clear hq3
              go_wp2_with fail
              go_roundw
              case rel => exact ⟨j + 1, by go_num, by omega, HQ3.out⟩
              case measure => simp [intOf]; omega
            · go_wp2_with fail
              go_roundw
              case rel => exact ⟨i + 1, by go_num, by omega, hqx⟩
              case measure => simp [intOf]; omega
        · go_wp2_with fail
          refine (Sr.lives_any _).mono ?_
          rintro e y3 ⟨rfl, hq3⟩
          go_wp2_with fail
          go_ret
          exact ⟨rfl, (HQN.out.trans hq).trans hq3⟩

set_option maxRecDepth 100000 in
theorem lifted (os : Os) (started : os.Started) (H : Type) (enc : TypeId × Value → H) :
    ReturnsInHanded {} Try.checked os 6 .any (Rows.systemReadsSpec.pre6 enc Try.prog Try.f6 Rows.systemReadsRow.domain false) (Rows.systemReadsSpec.post enc Try.prog Try.f6 false true false false) := by
  refine returnsInHanded_of_change (C := Try.checked) own started (by kernel_rfl) Try.func6
    (ChangeSpec.witness6 (enc := enc) (C := Try.checked) false ⟨#[], #[.int .i64 0, .string ByteArray.empty, .slice none 0 0, .int .i64 0, .int .u8 0, .string ByteArray.empty], []⟩ 8 (by kernel_rfl) (by kernel_rfl) (by kernel_rfl) (by kernel_rfl)) ?_
  intro W base args ds gs before hval0 hW hcnd _
  have hval : ∀ (j : Nat) t v, Try.f6.params[j]? = some t → args[j]? = some v → Value.okWide Try.prog W .any base t v := hval0
  have hW' := hW
  obtain ⟨p, q, hA0, hV, rfl, hfz, hnd⟩ := hW
  have hA : DataW.TrodAll enc Try.prog W 0 (fun _ => true) true Try.f6.params.toList args.toList ds p := hA0
  rw [Try.params6] at hA hval
  obtain ⟨v0, vs0, d0, ds0, p0, q0, hargs, rfl, rfl, h0, r0⟩ := trodAll_cons hA
  obtain ⟨v1, vs1, d1, ds1, p1, q1, rfl, rfl, rfl, h1, r1⟩ := trodAll_cons r0
  obtain ⟨v2, vs2, d2, ds2, p2, q2, rfl, rfl, rfl, h2, r2⟩ := trodAll_cons r1
  obtain ⟨v3, vs3, d3, ds3, p3, q3, rfl, rfl, rfl, h3, r3⟩ := trodAll_cons r2
  obtain ⟨v4, vs4, d4, ds4, p4, q4, rfl, rfl, rfl, h4, r4⟩ := trodAll_cons r3
  obtain ⟨v5, vs5, d5, ds5, p5, q5, rfl, rfl, rfl, h5, r5⟩ := trodAll_cons r4
  obtain ⟨rfl, rfl, rfl⟩ := trodAll_nil r5
  obtain rfl : args = #[v0, v1, v2, v3, v4, v5] := by cases args; simp_all
  obtain ⟨rfl, rfl⟩ := trodVars_none hV
  obtain ⟨a0, rfl, rfl, rfl, w0⟩ := open_int Try.underlying3 (hval 0 3 v0 rfl rfl) h0
  obtain ⟨a1, rfl, rfl, rfl, w1⟩ := open_string Try.underlying9 (hval 1 9 v1 rfl rfl) h1
  obtain ⟨a2, len2, cap2, rfl⟩ := okWide_slice Try.underlying36 (hval 2 36 v2 rfl rfl)
  have k2 := h2
  have lt2 : ∀ x ∈ p2, x.block < W.heap.size := by obtain ⟨m, hm⟩ := k2; exact DataW.trod_lt m _ _ _ hm
  obtain ⟨z2, w2⟩ : ∃ zs, IsRow .i64 W a2 len2 cap2 zs := by
    obtain ⟨fuel, hf⟩ := h2
    rcases open_ints Try.underlying36 Try.underlying3 (by kernel_rfl) hf with ⟨hcs, _⟩ | ⟨x, l, c, zs, hcs, _, hl, hm, hz, _, hcell, hwz⟩
    · simp [Value.cells] at hcs
      obtain ⟨rfl, rfl, rfl⟩ := hcs
      exact ⟨[], .inl ⟨rfl, rfl, rfl, rfl⟩⟩
    · simp [Value.cells] at hcs
      obtain ⟨rfl, rfl, rfl⟩ := hcs
      exact ⟨zs, .inr ⟨_, rfl, hl, hm, by simpa using hz, hcell, hwz⟩⟩
  obtain ⟨xs2, l2, _, b2⟩ := w2.lst
  obtain ⟨a3, rfl, rfl, rfl, w3⟩ := open_int Try.underlying3 (hval 3 3 v3 rfl rfl) h3
  obtain ⟨a4, rfl, rfl, rfl, w4⟩ := open_int Try.underlying5 (hval 4 5 v4 rfl rfl) h4
  obtain ⟨a5, rfl, rfl, rfl, w5⟩ := open_string Try.underlying9 (hval 5 9 v5 rfl rfl) h5
  clear hA0 hval0
  refine (walk W a0 (bounds_i64 w0) a1 w1 (.slice a2 len2 cap2) xs2 l2 b2 a3 (bounds_i64 w3) a4 (bounds_u8 w4) a5 w5).mono fun e W' ⟨he, bel⟩ => ?_
  subst he
  exact ⟨_, rfl, _, _, _, [], _, [], hW', trodAll_mk1 (shut_bool Try.underlying4 _), (trodAll_cons_mk (shut_int Try.underlying3 w0) (trodAll_cons_mk (shut_string Try.underlying9 w1) (trodAll_cons_mk (Below.trod laidOut (by kernel_rfl) (of_decide_eq_true (by kernel_rfl)) k2 bel lt2) (trodAll_cons_mk (shut_int Try.underlying3 w3) (trodAll_cons_mk (shut_int Try.underlying5 w4) (trodAll_cons_mk (shut_string Try.underlying9 w5) trodAll_mk0)))))), rfl, bel.below.frame _, fun h => by cases h⟩

/-- The statement. -/
theorem proved : Rows.SystemReadsSaid :=
  OpenClaim.holds_of_wide 6 Try.f6 rfl rfl rfl rfl rfl rfl rfl ⟨rfl, rfl, rfl, rfl, rfl⟩ rfl rfl rfl rfl rfl (by kernel_rfl) Try.func6 (by kernel_rfl)
    (of_decide_eq_true (by kernel_rfl)) (by unfold Func.isWrapper; first | (rw [if_pos (by decide +kernel)]; kernel_rfl) | (rw [if_neg (by decide +kernel)]; exact ⟨rfl, rfl⟩))
    (fun os started H enc _ => lifted os started H enc)
#print axioms proved
end Go.Proofs.Ytaonjhhpiihejaa.systemReads
