/- ClusterFamilies: of whatever list (its first 6 numbers, made 0 to 3): Pictos, each with so many Extends, are one cluster where a ZWJ stands between each two, and as many clusters as Pictos without; no conditions. -/
import Derived.Test.YtmbmopiicofhdaaRows
import Derived.WalkKit
import Derived.ProofKit
import Derived.OpenShut
import Derived.ShutString
import Derived.ChangeOld
import Derived.Below
import Derived.Test.YtmbmopiicofhdaaInts
import Derived.Test.YtmbmopiicofhdaaUtfM
import Derived.Test.YtmbmopiicofhdaaUtfG
import Derived.Test.YtmbmopiicofhdaaClsM
import Derived.Test.YtmbmopiicofhdaaPairs
import Derived.Test.YtmbmopiicofhdaaRun
import Derived.Test.YtmbmopiicofhdaaClsE
import Derived.Test.YtmbmopiicofhdaaClsW
import Derived.Test.YtmbmopiicofhdaaClsR
import Derived.Test.YtmbmopiicofhdaaUtfR
import Derived.Test.YtmbmopiicofhdaaUtfW
import Derived.Test.YtmbmopiicofhdaaGap
import Derived.Test.YtmbmopiicofhdaaRng
import Derived.Test.YtmbmopiicofhdaaEls
import Derived.Test.YtmbmopiicofhdaaCluM
import Derived.Test.YtmbmopiicofhdaaCluJ
import Derived.Test.YtmbmopiicofhdaaCluB
import Derived.Test.YtmbmopiicofhdaaCluS
import Derived.Test.YtmbmopiicofhdaaCluN
import Derived.Test.YtmbmopiicofhdaaCluL
import Derived.Test.YtmbmopiicofhdaaCluP
import Derived.Test.YtmbmopiicofhdaaCluR
import Derived.Test.YtmbmopiicofhdaaCluK
set_option linter.unusedVariables false
set_option linter.unusedSimpArgs false
namespace Go.Proofs.Ytmbmopiicofhdaa.clusterFamilies
open Go.ChangeShapes Go.WideShapes Go.ChangeAt Go.RowKit
open Go.ChangeMaps (open_string shut_string)

theorem own : ownKnob Try.prog.godebug = none := by kernel_rfl
theorem laidOut : laidOutB Try.prog = true := by kernel_rfl

open Um Cm Gm
/-- One Picto with its Extends. -/
def fam (k : Nat) : List Int := 128512 :: List.replicate k 65039
def tcs (ks : List Nat) : List Int := ks.flatMap fam
def scs : List Nat → List Int
  | [] => []
  | k :: r => fam k ++ r.flatMap fun k => 8205 :: fam k
theorem tcs_snoc (ks : List Nat) (k : Nat) : tcs (ks ++ [k]) = tcs ks ++ fam k := by simp [tcs]
theorem scs_snoc (ks : List Nat) (k : Nat) (h : ks ≠ []) : scs (ks ++ [k]) = scs ks ++ (8205 :: fam k) := by
  cases ks with
  | nil => exact absurd rfl h
  | cons a r => simp [scs]
theorem cls_all : cls 128512 = 14 ∧ cls 65039 = 4 ∧ cls 8205 = 5 := by decide +kernel
theorem vld_all : vld 128512 = true ∧ vld 65039 = true ∧ vld 8205 = true := by decide +kernel
theorem fam_vld (k : Nat) : ∀ c ∈ fam k, vld c = true := by
  intro c hc
  rcases List.mem_cons.1 hc with rfl | hc
  · exact vld_all.1
  · rw [List.eq_of_mem_replicate hc]; exact vld_all.2.1
theorem tcs_vld (ks : List Nat) : ∀ c ∈ tcs ks, vld c = true := by
  intro c hc
  obtain ⟨k, _, h⟩ := List.mem_flatMap.1 hc
  exact fam_vld k c h
theorem scs_vld (ks : List Nat) : ∀ c ∈ scs ks, vld c = true := by
  intro c hc
  cases ks with
  | nil => cases hc
  | cons a r =>
    rcases List.mem_append.1 hc with h | h
    · exact fam_vld a c h
    · obtain ⟨k, _, h⟩ := List.mem_flatMap.1 h
      rcases List.mem_cons.1 h with rfl | h
      · exact vld_all.2.2
      · exact fam_vld k c h
theorem cntF_append (t : St) (a b : List Nat) : cntF t (a ++ b) = cntF t a + cntF (a.foldl (fun t (k : Nat) => stp t k) t) b := by
  induction a generalizing t with
  | nil => simp [cntF]
  | cons k a ih => simp only [List.cons_append, cntF, ih, List.foldl_cons, Nat.add_assoc]
/-- What is remembered behind a Picto and Extends. -/
def Fam (t : St) : Prop := t.d = true ∧ t.s = false ∧ t.o = false ∧ (t.k = 14 ∨ t.k = 4)
theorem fam_ext (t : St) (h : Fam t) : jn t 4 = true ∧ Fam (stp t 4) := by
  obtain ⟨h1, h2, h3, h4⟩ := h
  obtain ⟨k, d, s, o⟩ := t
  simp only at h1 h2 h3 h4
  subst h1 h2 h3
  rcases h4 with rfl | rfl <;> exact ⟨by decide, by decide, by decide, by decide, by decide⟩
theorem fam_exts (n : Nat) (t : St) (h : Fam t) : cntF t (List.replicate n 4) = 0 ∧ Fam ((List.replicate n 4).foldl (fun t (k : Nat) => stp t k) t) := by
  induction n generalizing t with
  | zero => exact ⟨rfl, h⟩
  | succ n ih =>
    have h1 := fam_ext t h
    have h2 := ih _ h1.2
    rw [List.replicate_succ]
    refine ⟨?_, h2.2⟩
    show (if jn t 4 = true then 0 else 1) + cntF (stp t 4) (List.replicate n 4) = 0
    rw [if_pos h1.1, h2.1]
theorem fam_first (t : St) (h : t = st0 ∨ Fam t) : jn t 14 = false ∧ Fam (stp t 14) := by
  rcases h with rfl | ⟨h1, h2, h3, h4⟩
  · exact ⟨by decide, by decide, by decide, by decide, by decide⟩
  · obtain ⟨k, d, s, o⟩ := t
    simp only at h1 h2 h3 h4
    subst h1 h2 h3
    rcases h4 with rfl | rfl <;> exact ⟨by decide, by decide, by decide, by decide, by decide⟩
theorem fam_sewn (t : St) (h : Fam t) : jn t 5 = true ∧ jn (stp t 5) 14 = true ∧ Fam (stp (stp t 5) 14) := by
  obtain ⟨h1, h2, h3, h4⟩ := h
  obtain ⟨k, d, s, o⟩ := t
  simp only at h1 h2 h3 h4
  subst h1 h2 h3
  rcases h4 with rfl | rfl <;> exact ⟨by decide, by decide, by decide, by decide, by decide, by decide⟩
theorem fam_map (k : Nat) : (fam k).map cls = 14 :: List.replicate k 4 := by
  unfold fam
  rw [List.map_cons, List.map_replicate, cls_all.1, cls_all.2.1]
theorem cnt_fam (k : Nat) (t : St) (h : t = st0 ∨ Fam t) : cntF t ((fam k).map cls) = 1 ∧ Fam (((fam k).map cls).foldl (fun t (k : Nat) => stp t k) t) := by
  rw [fam_map]
  have h1 := fam_first t h
  have h2 := fam_exts k _ h1.2
  refine ⟨?_, h2.2⟩
  rw [cntF, show ((14 : Nat) : Int) = 14 from rfl, h1.1, h2.1]; rfl
theorem cnt_tcs (ks : List Nat) (t : St) (h : t = st0 ∨ Fam t) : cntF t ((tcs ks).map cls) = ks.length := by
  induction ks generalizing t with
  | nil => rfl
  | cons k ks ih =>
    have h1 := cnt_fam k t h
    have e : tcs (k :: ks) = fam k ++ tcs ks := by simp [tcs]
    rw [e, List.map_append, cntF_append, h1.1, ih _ (.inr h1.2), List.length_cons]; omega
theorem cnt_more (ks : List Nat) (t : St) (h : Fam t) : cntF t ((ks.flatMap fun k => 8205 :: fam k).map cls) = 0 := by
  induction ks generalizing t with
  | nil => rfl
  | cons k ks ih =>
    have h1 := fam_sewn t h
    have h2 := fam_exts k _ h1.2.2
    have e : ((k :: ks).flatMap fun k => 8205 :: fam k) = (8205 :: fam k) ++ ks.flatMap fun k => 8205 :: fam k := by simp
    rw [e, List.map_append, cntF_append, List.map_cons, cls_all.2.2, fam_map]
    have h3 := ih _ h2.2
    have h4 : cntF t (5 :: 14 :: List.replicate k 4) = 0 := by
      rw [cntF, cntF]
      rw [show ((5 : Nat) : Int) = 5 from rfl, show ((14 : Nat) : Int) = 14 from rfl, h1.1, h1.2.1, h2.1]; rfl
    rw [h4]
    simp only [Nat.zero_add]
    exact h3
theorem cnt_scs (ks : List Nat) : cntF st0 ((scs ks).map cls) = min ks.length 1 := by
  cases ks with
  | nil => rfl
  | cons k r =>
    have h1 := cnt_fam k st0 (.inl rfl)
    unfold scs
    rw [List.map_append, cntF_append, h1.1, cnt_more r _ h1.2, List.length_cons]; omega
theorem joinL_append (a b : List Int) : joinL (a ++ b) = joinL a ++ joinL b := by unfold joinL; rw [List.flatMap_append]
theorem lit_pic : joinL [128512] = [240, 159, 152, 128] := by decide +kernel
theorem lit_ext : joinL [65039] = [239, 184, 143] := by decide +kernel
theorem lit_zwj : joinL [8205] = [226, 128, 141] := by decide +kernel
theorem fam_more (i : Nat) : joinL (fam (i + 1)) = joinL (fam i) ++ [239, 184, 143] := by
  rw [← lit_ext, ← joinL_append]
  unfold fam
  rw [List.replicate_succ']; rfl
/-- The numbers, made small. -/
def kz (x : Int) : Nat := (around x 4).toNat
theorem kz_take (X : List Int) (j : Nat) (h : j < X.length) : (X.take (j + 1)).map kz = (X.take j).map kz ++ [kz (X.getD j 0)] := by
  rw [List.take_succ_eq_append_getElem h, List.map_append, List.getD_eq_getElem?_getD, List.getElem?_eq_getElem h]; rfl
theorem map_ne (X : List Int) (j : Nat) (h : 0 < j) (hj : j ≤ X.length) : (X.take j).map kz ≠ [] := by
  intro e
  have := congrArg List.length e
  rw [List.length_map, List.length_take, List.length_nil] at this
  omega

set_option maxHeartbeats 2000000 in
set_option maxRecDepth 100000 in
theorem walk (w : World) (v0 : Value) (xs0 : List Int) (w0 : Lst w v0 xs0) (b0 : ∀ n ∈ xs0, -9223372036854775808 ≤ n ∧ n ≤ 9223372036854775807) :
    Calls Try.prog 8 #[v0] w fun e w' => e = .returned (.bool true) ∧ Q w w' := by
  obtain ⟨ad0, cp0, rfl, hlc0, hcm0⟩ := w0.shape2
  unfold maxLen at hcm0
  obtain ⟨L0, hL0⟩ : ∃ L, L = xs0.length := ⟨_, rfl⟩
  obtain ⟨n0, hn0⟩ : ∃ n : Nat, n = min L0 6 := ⟨_, rfl⟩
  rw [← hL0] at hlc0 ⊢
  have HL := Lib.hid hL0
  have h10 : n0 ≤ 6 := by omega
  have h11 : n0 ≤ L0 := by omega
  have h12 : n0 = L0 ∨ n0 = 6 := by omega
  have hmn : min (L0 : Int) 6 = (n0 : Int) := by omega
  have HMN := Lib.hid hmn
  have H1 := Lib.hid w0
  have HB := Lib.hid b0
  clear hL0 hn0 w0 b0 hmn
  go_enter Try.func8, Try.ntmps8
  go_wp2_with fail
  go_loopw [3, 4, 5] (fun s t i wr => ∃ (j : Nat) (S T : ByteArray), i = .int .i64 j ∧ s = .string S ∧ t = .string T ∧ j ≤ n0 ∧ S.size ≤ 20 * j ∧ T.size ≤ 20 * j ∧ S.data.toList = joinL (scs ((xs0.take j).map kz)) ∧ T.data.toList = joinL (tcs ((xs0.take j).map kz)) ∧ Q w wr) (fun _ _ i _ => n0 - (intOf i).toNat)
  case atStart => exact ⟨0, ByteArray.empty, ByteArray.empty, rfl, rfl, rfl, by omega, by simp, by simp, rfl, rfl, Q.refl _⟩
  case round =>
    obtain ⟨j, S, T, rfl, rfl, rfl, hj, hSs, hTs, hS, hT, hq⟩ := hrel
    have HS := Lib.hid hS
    have HT := Lib.hid hT
    clear hS hT
    by_cases hlt : j < n0
    · have hj1 : (j : Int) < (L0 : Int) := by omega
      have hj2 : (j : Int) < 6 := by omega
      obtain ⟨g, off, cap, hvv, hg, _, _, c1⟩ := (H1.out.q hq).cellOf HL.out.symm (by omega : j < L0)
      cases hvv
      have hkb := HB.out (xs0.getD j 0) (by
        rw [List.getD_eq_getElem?_getD, List.getElem?_eq_getElem (by rw [← HL.out]; omega)]
        exact List.getElem_mem _)
      have hmt := kz_take xs0 j (by rw [← HL.out]; omega)
      have hne := map_ne xs0 j
      obtain ⟨p, hp⟩ : ∃ p, p = xs0.getD j 0 := ⟨_, rfl⟩
      rw [← hp] at c1 hkb hmt
      have ha4 := fun w => Ur.around_any p 4 w hkb.1 hkb.2 (by omega) (by omega)
      have hb4 := around_bd p 4 (by omega)
      obtain ⟨q, hqq⟩ : ∃ q : Nat, (q : Int) = around p 4 := ⟨(around p 4).toNat, by omega⟩
      have hkz : kz p = q := by unfold kz; omega
      rw [hkz] at hmt
      rw [← hqq] at ha4 hb4
      have HMT := Lib.hid hmt
      have HA := Lib.hid ha4
      have HNE := Lib.hid hne
      clear hp hmt ha4 hqq hkz hne
      go_wp2_with fail
      refine (HA.out _).mono ?_
      rintro e u1 ⟨rfl, rfl⟩
      go_wp2_with fail
      go_loopw [6, 7] (fun o k wi => ∃ (i : Nat) (P : ByteArray), k = .int .i64 ((q : Int) - i) ∧ o = .string P ∧ i ≤ q ∧ P.size ≤ 4 + 3 * i ∧ P.data.toList = joinL (fam i) ∧ Q w wi) (fun _ k _ => (intOf k).toNat)
      case atStart => exact ⟨0, ⟨#[240, 159, 152, 128]⟩, by simp, rfl, by omega, by decide, lit_pic.symm, hq⟩
      case round =>
        obtain ⟨i, P, rfl, rfl, hi, hPs, hP, hqi⟩ := hrel
        have HP := Lib.hid hP
        clear hP
        by_cases hiq : i < q
        · have hpos : (0 : Int) < (q : Int) - (i : Int) := by omega
          have h3 : (⟨#[239, 184, 143]⟩ : ByteArray).size = 3 := rfl
          have H3 := Lib.hid h3
          clear h3
          go_wp2_with fail
          go_roundw
          case rel => exact ⟨i + 1, P ++ ⟨#[239, 184, 143]⟩, by congr 1; omega, rfl, by omega, by rw [ByteArray.size_append, H3.out]; omega, by rw [ByteArray.data_append, Array.toList_append, HP.out, fam_more], hqi⟩
          case measure => simp [intOf]; omega
        · have hieq : i = q := by omega
          have hneg : ¬ (0 : Int) < (q : Int) - (i : Int) := by omega
          have hq3 : q ≤ 3 := by omega
          have HPQ := Lib.hid (by rw [← hieq]; exact HP.out : P.data.toList = joinL (fam q))
          have hPs2 : P.size ≤ 13 := by omega
          have hTn : (T ++ P).data.toList = joinL (tcs ((xs0.take (j + 1)).map kz)) := by
            rw [HMT.out, tcs_snoc, joinL_append, ByteArray.data_append, Array.toList_append, HT.out, HPQ.out]
          have hTz : (T ++ P).size ≤ 20 * (j + 1) := by rw [ByteArray.size_append]; omega
          have HTN := Lib.hid hTn
          clear hieq hTn
          by_cases hj0 : j = 0
          · subst hj0
            have hSn : (S ++ P).data.toList = joinL (scs ((xs0.take (0 + 1)).map kz)) := by
              have hs0 := HS.out
              rw [HMT.out, ByteArray.data_append, Array.toList_append, HPQ.out, hs0]
              simp [scs, joinL]
            have hSz : (S ++ P).size ≤ 20 * (0 + 1) := by rw [ByteArray.size_append]; omega
            have HSN := Lib.hid hSn
            clear hSn
            go_wp2_with fail
            go_roundw
            case rel => exact ⟨0 + 1, S ++ P, T ++ P, by go_num, rfl, rfl, by omega, hSz, hTz, HSN.out, HTN.out, hqi⟩
            case measure => simp [intOf]; omega
          · have hjp : (0 : Int) < (j : Int) := by omega
            have h3 : ((⟨#[226, 128, 141]⟩ : ByteArray) ++ P).size = 3 + P.size := by rw [ByteArray.size_append]; rfl
            have hSn : (S ++ (⟨#[226, 128, 141]⟩ ++ P)).data.toList = joinL (scs ((xs0.take (j + 1)).map kz)) := by
              rw [HMT.out, scs_snoc _ _ (HNE.out (by omega) (by have := HL.out; omega)), joinL_append, ByteArray.data_append, Array.toList_append, HS.out]
              congr 1
              rw [ByteArray.data_append, Array.toList_append, HPQ.out, show (8205 :: fam q : List Int) = [8205] ++ fam q from rfl, joinL_append, lit_zwj]
            have hSz : (S ++ (⟨#[226, 128, 141]⟩ ++ P)).size ≤ 20 * (j + 1) := by rw [ByteArray.size_append, h3]; omega
            have HSN := Lib.hid hSn
            have H3 := Lib.hid h3
            clear hSn h3
            go_wp2_with fail
            go_roundw
            case rel => exact ⟨j + 1, S ++ (⟨#[226, 128, 141]⟩ ++ P), T ++ P, by go_num, rfl, rfl, by omega, hSz, hTz, HSN.out, HTN.out, hqi⟩
            case measure => simp [intOf]; omega
    · have he : j = n0 := by omega
      have hlen : ((xs0.take j).map kz).length = n0 := by rw [List.length_map, List.length_take]; have := HL.out; omega
      have hl1 := fun w => clen_any S w (by omega)
      rw [HS.out, begL_join _ (scs_vld _), cnt_scs, hlen] at hl1
      have hl2 := fun w => clen_any T w (by omega)
      rw [HT.out, begL_join _ (tcs_vld _), cnt_tcs _ _ (.inl rfl), hlen] at hl2
      clear he hlen
      have hnot : (¬ (j : Int) < (L0 : Int)) ∨ ((j : Int) < (L0 : Int) ∧ ¬ (j : Int) < 6) := by omega
      have hcase : n0 = 0 ∨ (0 < n0 ∧ min n0 1 = 1 ∧ min (n0 : Int) 1 = 1) := by omega
      rcases hcase with rfl | ⟨hp, hm1, hm2⟩
      · obtain rfl : L0 = 0 := by omega
        rw [show ((min 0 1 : Nat) : Int) = 0 from rfl] at hl1
        rw [show ((0 : Nat) : Int) = 0 from rfl] at hl2
        have HL1 := Lib.hid hl1
        have HL2 := Lib.hid hl2
        clear hl1 hl2 h12 h11 h10
        have hmn : min (0 : Int) 6 = 0 := by omega
        have hm1 : min (0 : Int) 1 = 0 := by omega
        have hm3 : min (0 : Int) (min 6 1) = 0 := by omega
        have hn1 : ¬ (j : Int) < ((0 : Nat) : Int) := by omega
        · clear hnot
          go_wp2_with fail
          refine (HL1.out _).mono ?_
          rintro e u1 ⟨rfl, hq1⟩
          go_wp2_with fail
          refine (HL2.out _).mono ?_
          rintro e u2 ⟨rfl, hq2⟩
          go_wp2_with fail
          refine (Gr.lives_any _).mono ?_
          rintro e u3 ⟨rfl, hq3⟩
          go_wp2_with fail
          go_ret
          exact ⟨rfl, ((hq.trans hq1).trans hq2).trans hq3⟩
      · rw [hm1] at hl1
        rw [show ((1 : Nat) : Int) = 1 from rfl] at hl1
        have HL1 := Lib.hid hl1
        have HL2 := Lib.hid hl2
        clear hl1 hl2 hm1
        have hmn := HMN.out
        have hm3 : min (L0 : Int) (min 6 1) = 1 := by omega
        rcases hnot with hn1 | ⟨hn1, hn2⟩
        all_goals
          go_wp2_with fail
          refine (HL1.out _).mono ?_
          rintro e u1 ⟨rfl, hq1⟩
          go_wp2_with fail
          refine (HL2.out _).mono ?_
          rintro e u2 ⟨rfl, hq2⟩
          go_wp2_with fail
          refine (Gr.lives_any _).mono ?_
          rintro e u3 ⟨rfl, hq3⟩
          go_wp2_with fail
          go_ret
          exact ⟨rfl, ((hq.trans hq1).trans hq2).trans hq3⟩

set_option maxRecDepth 100000 in
theorem lifted (os : Os) (started : os.Started) (H : Type) (enc : TypeId × Value → H) :
    ReturnsInHanded {} Try.checked os 8 .any (Rows.clusterFamiliesSpec.pre6 enc Try.prog Try.f8 Rows.clusterFamiliesRow.domain false) (Rows.clusterFamiliesSpec.post enc Try.prog Try.f8 false true false false) := by
  refine returnsInHanded_of_change (C := Try.checked) own started (by kernel_rfl) Try.func8
    (ChangeSpec.witness6 (enc := enc) (C := Try.checked) false ⟨#[], #[.slice none 0 0], []⟩ 8 (by kernel_rfl) (by kernel_rfl) (by kernel_rfl) (by kernel_rfl)) ?_
  intro W base args ds gs before hval0 hW hcnd _
  have hval : ∀ (j : Nat) t v, Try.f8.params[j]? = some t → args[j]? = some v → Value.okWide Try.prog W .any base t v := hval0
  have hW' := hW
  obtain ⟨p, q, hA0, hV, rfl, hfz, hnd⟩ := hW
  have hA : DataW.TrodAll enc Try.prog W 0 (fun _ => true) true Try.f8.params.toList args.toList ds p := hA0
  rw [Try.params8] at hA hval
  obtain ⟨v0, vs0, d0, ds0, p0, q0, hargs, rfl, rfl, h0, r0⟩ := trodAll_cons hA
  obtain ⟨rfl, rfl, rfl⟩ := trodAll_nil r0
  obtain rfl : args = #[v0] := by cases args; simp_all
  obtain ⟨rfl, rfl⟩ := trodVars_none hV
  obtain ⟨a0, len0, cap0, rfl⟩ := okWide_slice Try.underlying22 (hval 0 22 v0 rfl rfl)
  have k0 := h0
  have lt0 : ∀ x ∈ p0, x.block < W.heap.size := by obtain ⟨m, hm⟩ := k0; exact DataW.trod_lt m _ _ _ hm
  obtain ⟨z0, w0⟩ : ∃ zs, IsRow .i64 W a0 len0 cap0 zs := by
    obtain ⟨fuel, hf⟩ := h0
    rcases open_ints Try.underlying22 Try.underlying3 (by kernel_rfl) hf with ⟨hcs, _⟩ | ⟨x, l, c, zs, hcs, _, hl, hm, hz, _, hcell, hwz⟩
    · simp [Value.cells] at hcs
      obtain ⟨rfl, rfl, rfl⟩ := hcs
      exact ⟨[], .inl ⟨rfl, rfl, rfl, rfl⟩⟩
    · simp [Value.cells] at hcs
      obtain ⟨rfl, rfl, rfl⟩ := hcs
      exact ⟨zs, .inr ⟨_, rfl, hl, hm, by simpa using hz, hcell, hwz⟩⟩
  obtain ⟨xs0, l0, _, b0⟩ := w0.lst
  clear hA0 hval0
  refine (walk W (.slice a0 len0 cap0) xs0 l0 b0).mono fun e W' ⟨he, bel⟩ => ?_
  subst he
  exact ⟨_, rfl, _, _, _, [], _, [], hW', trodAll_mk1 (shut_bool Try.underlying4 _), (trodAll_cons_mk (Below.trod laidOut (by kernel_rfl) (of_decide_eq_true (by kernel_rfl)) k0 bel lt0) trodAll_mk0), rfl, bel.below.frame _, fun h => by cases h⟩

/-- The statement. -/
theorem proved : Rows.ClusterFamiliesSaid :=
  OpenClaim.holds_of_wide 8 Try.f8 rfl rfl rfl rfl rfl rfl rfl ⟨rfl, rfl, rfl, rfl, rfl⟩ rfl rfl rfl rfl rfl (by kernel_rfl) Try.func8 (by kernel_rfl)
    (of_decide_eq_true (by kernel_rfl)) (by unfold Func.isWrapper; first | (rw [if_pos (by decide +kernel)]; kernel_rfl) | (rw [if_neg (by decide +kernel)]; exact ⟨rfl, rfl⟩))
    (fun os started H enc _ => lifted os started H enc)
#print axioms proved
end Go.Proofs.Ytmbmopiicofhdaa.clusterFamilies
