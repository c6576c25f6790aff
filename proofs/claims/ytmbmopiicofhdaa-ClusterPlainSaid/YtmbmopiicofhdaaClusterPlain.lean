/- ClusterPlain: of whatever list (its first 12 numbers, made letters and marks): the text has as many clusters as letters, and each is plain, and one; no conditions. -/
import Derived.Test.YtmbmopiicofhdaaRows
import Derived.WalkKit
import Derived.ProofKit
import Derived.OpenShut
import Derived.ShutString
import Derived.ChangeOld
import Derived.Below
import Derived.Test.YtmbmopiicofhdaaInts
import Derived.Test.YtmbmopiicofhdaaUtfM
import Derived.Test.YtmbmopiicofhdaaUtfG
import Derived.Test.YtmbmopiicofhdaaClsM
import Derived.Test.YtmbmopiicofhdaaPairs
import Derived.Test.YtmbmopiicofhdaaRun
import Derived.Test.YtmbmopiicofhdaaClsE
import Derived.Test.YtmbmopiicofhdaaClsW
import Derived.Test.YtmbmopiicofhdaaClsR
import Derived.Test.YtmbmopiicofhdaaClsP
import Derived.Test.YtmbmopiicofhdaaUtfR
import Derived.Test.YtmbmopiicofhdaaUtfW
import Derived.Test.YtmbmopiicofhdaaBld
import Derived.Test.YtmbmopiicofhdaaUtfJ
import Derived.Test.YtmbmopiicofhdaaGap
import Derived.Test.YtmbmopiicofhdaaRng
import Derived.Test.YtmbmopiicofhdaaEls
import Derived.Test.YtmbmopiicofhdaaCluM
import Derived.Test.YtmbmopiicofhdaaCluJ
import Derived.Test.YtmbmopiicofhdaaCluB
import Derived.Test.YtmbmopiicofhdaaCluS
import Derived.Test.YtmbmopiicofhdaaCluN
import Derived.Test.YtmbmopiicofhdaaCluL
import Derived.Test.YtmbmopiicofhdaaCluP
import Derived.Test.YtmbmopiicofhdaaCluR
import Derived.Test.YtmbmopiicofhdaaCluK
set_option linter.unusedVariables false
set_option linter.unusedSimpArgs false
namespace Go.Proofs.Ytmbmopiicofhdaa.clusterPlain
open Go.ChangeShapes Go.WideShapes Go.ChangeAt Go.RowKit
open Go.ChangeMaps (open_string shut_string)

theorem own : ownKnob Try.prog.godebug = none := by kernel_rfl
theorem laidOut : laidOutB Try.prog = true := by kernel_rfl

open Um Cm Gm
theorem jn_zero (t : St) (h : t.k ≠ 7) : jn t 0 = false := by
  obtain ⟨a, d, s, o⟩ := t
  simp only at h
  have hs : sylB a 0 = false := by
    unfold sylB
    split
    · decide
    · split
      · decide
      · split <;> decide
  unfold jn pairB
  simp only [show decide ((0 : Int) = 14) = false from rfl, show decide ((0 : Int) = 6) = false from rfl, Bool.and_false, Bool.or_false]
  split
  · rfl
  · rw [if_neg (by omega)]
    split
    · rfl
    · simp [h, hs]
theorem jn_four (t : St) (h : t.k = 0 ∨ t.k = 4) : jn t 4 = true := by
  obtain ⟨a, d, s, o⟩ := t
  simp only at h
  have : pairB a 4 = true := by rcases h with rfl | rfl <;> decide
  unfold jn
  simp only [this, Bool.true_or]
/-- A group: an Other, and Extends. -/
def Grp (g : List Int) : Prop := ∃ c m, g = c :: m ∧ cls c = 0 ∧ ∀ x ∈ m, cls x = 4
def lets (l : List Int) : Nat := (l.filter fun c => cls c == 0).length
theorem lets_snoc (l : List Int) (c : Int) : lets (l ++ [c]) = lets l + if cls c = 0 then 1 else 0 := by
  unfold lets
  rw [List.filter_append, List.length_append]
  by_cases h : cls c = 0
  · simp [h]
  · simp [h]
theorem groups_rev (r : List Int) : (∀ c ∈ r, cls c = 0 ∨ cls c = 4) → (∀ c, r.getLast? = some c → cls c = 0) → ∃ gs : List (List Int), r.reverse = gs.flatten ∧ (∀ g ∈ gs, Grp g) ∧ gs.length = lets r.reverse := by
  induction r with
  | nil => intro _ _; exact ⟨[], rfl, by simp, rfl⟩
  | cons c r ih =>
    intro hc hh
    by_cases hr : r = []
    · subst hr
      have h0 := hh c rfl
      refine ⟨[[c]], by simp, ?_, ?_⟩
      · intro g hg
        rw [List.mem_singleton.1 hg]
        exact ⟨c, [], rfl, h0, by simp⟩
      · have := lets_snoc [] c
        rw [if_pos h0] at this
        simpa [lets] using this.symm
    · obtain ⟨gs, h1, h2, h3⟩ := ih (fun d hd => hc d (by simp [hd])) (fun d hd => hh d (by rw [List.getLast?_cons]; simp [hd]))
      rw [List.reverse_cons, lets_snoc, h1]
      rcases hc c (by simp) with h0 | h4
      · refine ⟨gs ++ [[c]], by simp, ?_, ?_⟩
        · intro g hg
          rcases List.mem_append.1 hg with hg | hg
          · exact h2 g hg
          · rw [List.mem_singleton.1 hg]
            exact ⟨c, [], rfl, h0, by simp⟩
        · rw [if_pos h0, List.length_append, h3, h1]; rfl
      · have hne : gs ≠ [] := by
          intro e
          rw [e] at h1
          have := List.reverse_eq_nil_iff.1 (by simpa using h1 : r.reverse = [])
          exact hr this
        obtain ⟨gs', g, rfl⟩ : ∃ gs' g, gs = gs' ++ [g] := ⟨gs.dropLast, gs.getLast hne, (List.dropLast_concat_getLast hne).symm⟩
        refine ⟨gs' ++ [g ++ [c]], by simp, ?_, ?_⟩
        · intro f hf
          rcases List.mem_append.1 hf with hf | hf
          · exact h2 f (List.mem_append_left _ hf)
          · rw [List.mem_singleton.1 hf]
            obtain ⟨d, m, rfl, hd, hm⟩ := h2 g (List.mem_append_right _ (by simp))
            refine ⟨d, m ++ [c], rfl, hd, fun x hx => ?_⟩
            rcases List.mem_append.1 hx with hx | hx
            · exact hm x hx
            · rw [List.mem_singleton.1 hx]; exact h4
        · rw [if_neg (by omega), ← h1, ← h3]; simp
theorem groups_of (l : List Int) (hc : ∀ c ∈ l, cls c = 0 ∨ cls c = 4) (hh : ∀ c, l.head? = some c → cls c = 0) : ∃ gs : List (List Int), l = gs.flatten ∧ (∀ g ∈ gs, Grp g) ∧ gs.length = lets l := by
  have := groups_rev l.reverse (fun c h => hc c (by simpa using h)) (fun c h => hh c (by simpa using h))
  rwa [List.reverse_reverse] at this
theorem cnt_fours (m : List Int) (t : St) (ht : t.k = 0 ∨ t.k = 4) (h : ∀ x ∈ m, cls x = 4) : cntF t (m.map cls) = 0 := by
  induction m generalizing t with
  | nil => rfl
  | cons x m ih =>
    rw [List.map_cons, h x (by simp), cntF, show ((4 : Nat) : Int) = 4 from rfl, jn_four t ht, if_pos rfl, ih _ (.inr rfl) (fun y hy => h y (by simp [hy]))]
theorem cnt_grp (g : List Int) (h : Grp g) : cntF st0 (g.map cls) = 1 := by
  obtain ⟨c, m, rfl, h0, hm⟩ := h
  rw [List.map_cons, h0, cntF, jn_st0, cnt_fours m _ (.inl rfl) hm]; rfl
theorem stL_grp (g : List Int) (h : Grp g) : (stL g).k ≠ 7 := by
  obtain ⟨c, m, rfl, h0, hm⟩ := h
  obtain ⟨r, d, hr⟩ : ∃ r d, c :: m = r ++ [d] := ⟨(c :: m).dropLast, (c :: m).getLast (by simp), (List.dropLast_concat_getLast (by simp)).symm⟩
  have hd : d ∈ c :: m := by rw [hr]; simp
  rw [hr, stL_snoc]
  show ((cls d : Nat) : Int) ≠ 7
  rcases List.mem_cons.1 hd with rfl | hd
  · omega
  · have := hm d hd; omega
def txt (g : List Int) : ByteArray := ⟨(joinL g).toArray⟩
theorem txt_list (g : List Int) : (txt g).data.toList = joinL g := rfl
theorem pcs_one (g : List Int) (hv : ∀ c ∈ g, vld c = true) (h : Grp g) : pcs (txt g) = [txt g] := by
  have hn : (begL (joinL g)).length = 1 := by rw [begL_join g hv, cnt_grp g h]
  have hne : joinL g ≠ [] := by
    intro e
    rw [e] at hn
    simp [begL_nil] at hn
  unfold pcs
  rw [txt_list, hn]
  show [pc (txt g) (stL1 (joinL g)) 0] = [txt g]
  congr 1
  apply ba_ext
  rw [pc_list, txt_list, stL1_zero _ hne]
  have := stL1_last (joinL g)
  rw [hn] at this
  rw [this]
  simp
theorem joinL_append (a b : List Int) : joinL (a ++ b) = joinL a ++ joinL b := by unfold joinL; rw [List.flatMap_append]
theorem txt_append (a b : List Int) : txt (a ++ b) = txt a ++ txt b := by
  apply ba_ext
  rw [ByteArray.data_append, Array.toList_append]
  show joinL (a ++ b) = joinL a ++ joinL b
  exact joinL_append a b
theorem pcs_groups (gs : List (List Int)) (hv : ∀ g ∈ gs, ∀ c ∈ g, vld c = true) (h : ∀ g ∈ gs, Grp g) : pcs (txt gs.flatten) = gs.map txt := by
  induction gs with
  | nil => rfl
  | cons g gs ih =>
    have hv1 := hv g (by simp)
    have hg := h g (by simp)
    have ih := ih (fun f hf => hv f (by simp [hf])) (fun f hf => h f (by simp [hf]))
    rw [List.flatten_cons, txt_append, pcs_part, pcs_one g hv1 hg, ih]
    · rfl
    · rw [txt_list, txt_list, marks_join g _ hv1, marks_join0 g hv1]
    · intro hne
      rw [txt_list] at hne ⊢
      rw [txt_list]
      cases gs with
      | nil => exact absurd rfl hne
      | cons f fs =>
        obtain ⟨c, m, rfl, h0, _⟩ := h f (by simp)
        have hc := hv (c :: m) (by simp) c (by simp)
        have e : joinL ((c :: m) :: fs).flatten = enc c ++ joinL (m ++ fs.flatten) := by
          rw [List.flatten_cons, List.cons_append]
          show joinL (c :: (m ++ fs.flatten)) = _
          unfold joinL
          rw [List.flatMap_cons, one, if_pos hc]
        rw [e, mark_enc c _ hc, marks_join0 g hv1]
        have hs : stMs (g.map fun c => (c, (enc c).length, true)) = stL g := by
          unfold stMs
          rw [List.map_map]
          exact congrArg stL (List.map_id' g)
        rw [hs]
        show jn (stL g) (cls c) = false
        rw [h0]
        exact jn_zero _ (stL_grp g hg)
theorem chrP_vld (i : Nat) (x : Int) : vld (chrP i x) = true := by
  have hb := around_bd x 60 (by omega)
  unfold chrP
  split
  · exact (vld_iff _).2 (by omega)
  · exact (vld_iff _).2 (by omega)
theorem plG_vld (i : Nat) (l : List Int) : ∀ c ∈ plG i l, vld c = true := by
  induction l generalizing i with
  | nil => simp [plG]
  | cons x r ih =>
    intro c hc
    rcases List.mem_cons.1 hc with rfl | hc
    · exact chrP_vld i x
    · exact ih _ c hc
theorem plG_cls (i : Nat) (l : List Int) : ∀ c ∈ plG i l, cls c = 0 ∨ cls c = 4 := by
  intro c hc
  have := (List.all_eq_true.1 (plG_all i l)) c hc
  simpa using this
theorem plG_hd (l : List Int) : ∀ c, (plG 0 l).head? = some c → cls c = 0 := by
  cases l with
  | nil => simp [plG]
  | cons x r =>
    intro c hc
    simp [plG] at hc
    subst hc
    simpa using plG_head x r
theorem plain_grp (g : List Int) (h : Grp g) : plainB g = true := by
  obtain ⟨c, m, rfl, h0, hm⟩ := h
  unfold plainB plP
  simp only [List.all_cons, List.length_cons, h0]
  have : (m.all fun c => cls c == 0 || cls c == 4) = true := List.all_eq_true.2 fun x hx => by simp [hm x hx]
  simp [this]
theorem flat_len (gs : List (List Int)) (g : List Int) (h : g ∈ gs) : g.length ≤ gs.flatten.length := by
  induction gs with
  | nil => cases h
  | cons f fs ih =>
    rw [List.flatten_cons, List.length_append]
    rcases List.mem_cons.1 h with rfl | h
    · omega
    · have := ih h; omega

set_option maxHeartbeats 4000000 in
set_option maxRecDepth 100000 in
theorem walk (w : World) (v0 : Value) (xs0 : List Int) (w0 : Lst w v0 xs0) (b0 : ∀ n ∈ xs0, -9223372036854775808 ≤ n ∧ n ≤ 9223372036854775807) :
    Calls Try.prog 7 #[v0] w fun e w' => e = .returned (.bool true) ∧ Q w w' := by
  obtain ⟨ad0, cp0, rfl, hlc0, hcm0⟩ := w0.shape2
  unfold maxLen at hcm0
  obtain ⟨L0, hL0⟩ : ∃ L, L = xs0.length := ⟨_, rfl⟩
  obtain ⟨n0, hn0⟩ : ∃ n : Nat, n = min L0 12 := ⟨_, rfl⟩
  rw [← hL0] at hlc0 ⊢
  have HL := Lib.hid hL0
  have h10 : n0 ≤ 12 := by omega
  have h11 : n0 ≤ L0 := by omega
  have h12 : n0 = L0 ∨ n0 = 12 := by omega
  have H1 := Lib.hid w0
  have HB := Lib.hid b0
  clear hL0 hn0 w0 b0
  go_enter Try.func7, Try.ntmps7
  go_wp2_with fail
  go_loopw [3, 4, 5] (fun o c i wr => ∃ (j n : Nat), i = .int .i64 j ∧ c = .int .i64 n ∧ j ≤ n0 ∧ n ≤ j ∧ n = lets (plG 0 (xs0.take j)) ∧ Own wr w.heap.size o (plG 0 (xs0.take j)) ∧ Q w wr) (fun _ _ i _ => n0 - (intOf i).toNat)
  case atStart => exact ⟨0, 0, rfl, rfl, by omega, by omega, rfl, Own.nil _ _, Q.refl _⟩
  case round =>
    obtain ⟨j, n, rfl, rfl, hj, hnj, hn, hown, hq⟩ := hrel
    have hqs := hq.le
    have HN := Lib.hid hn
    clear hn
    by_cases hlt : j < n0
    · have hj1 : (j : Int) < (L0 : Int) := by omega
      have hj2 : (j : Int) < 12 := by omega
      obtain ⟨g, off, cap, hvv, hg, _, _, c1⟩ := (H1.out.q hq).cellOf HL.out.symm (by omega : j < L0)
      cases hvv
      have hkb := HB.out (xs0.getD j 0) (by
        rw [List.getD_eq_getElem?_getD, List.getElem?_eq_getElem (by rw [← HL.out]; omega)]
        exact List.getElem_mem _)
      have hmt := plG_take xs0 j (by rw [← HL.out]; omega)
      have hlen : (plG 0 (xs0.take j)).length < 1099511627776 := by
        rw [plG_length]
        have : (xs0.take j).length ≤ j := List.length_take_le _ _
        omega
      obtain ⟨p, hp⟩ : ∃ p, p = xs0.getD j 0 := ⟨_, rfl⟩
      rw [← hp] at c1 hkb hmt
      have ha := fun w => Ur.around_any p 60 w hkb.1 hkb.2 (by omega) (by omega)
      have hb := around_bd p 60 (by omega)
      have hls := lets_snoc (plG 0 (xs0.take j)) (chrP j p)
      rw [← hmt, ← HN.out] at hls
      have hcl := chrP_cls j p
      have hcd : chrP j p = (if 25 < around p 60 ∧ 0 < j then 768 + around p 60 else 65 + around p 60 % 26) := rfl
      have hc1 : ∀ q, around p 60 = q → 25 < q → 0 < j → cls (768 + q) = 4 := by
        intro q h1 h2 h3
        have := cls_marks (q - 26).toNat (by omega)
        rw [show (794 : Int) + ((q - 26).toNat : Int) = 768 + q from by omega] at this
        exact this
      have hc2 : ∀ q, around p 60 = q → cls (65 + q % 26) = 0 := by
        intro q h1
        have := cls_letters (q % 26).toNat (by omega)
        rw [show (65 : Int) + ((q % 26).toNat : Int) = 65 + q % 26 from by omega] at this
        exact this
      have hc1 := hc1 _ rfl
      have hc2 := hc2 _ rfl
      generalize around p 60 = q at ha hb hcd hc1 hc2
      generalize chrP j p = ch at hmt hls hcl hcd
      have HA := Lib.hid ha
      have HMT := Lib.hid hmt
      clear hp hmt ha hcl
      by_cases hm : 25 < q ∧ 0 < j
      · rw [if_pos hm] at hcd
        obtain ⟨hm1, hm2⟩ := hm
        have hjp : (0 : Int) < (j : Int) := by omega
        rw [hcd, if_neg (by rw [hc1 hm1 hm2]; omega)] at hls
        have HLS := Lib.hid hls
        have HCD := Lib.hid hcd
        clear hls hcd hc1 hc2 hm2
        go_wp2_with fail
        refine (HA.out _).mono ?_
        rintro e u1 ⟨rfl, rfl⟩
        go_wp2_with (at_builtin; refine push_int hown rfl _ _ rfl _ (by rfl) (by rfl) hlen hqs ?_; intro v' w4 hown4 hg4 hat4)
        go_roundw
        case rel => exact ⟨j + 1, n, by go_num, rfl, by omega, by omega, by have := HLS.out; omega, by rw [HMT.out, HCD.out]; exact hown4, hq.grown hg4 (fun k h => (hown.lt k h).1)⟩
        case measure => simp [intOf]; omega
      · rw [if_neg hm] at hcd
        rw [hcd, if_pos hc2] at hls
        have HLS := Lib.hid hls
        have HCD := Lib.hid hcd
        clear hls hcd hc1 hc2
        have hm' : (¬ 25 < q) ∨ (25 < q ∧ ¬ (0 : Int) < (j : Int)) := by omega
        clear hm
        rcases hm' with hm1 | ⟨hm1, hm2⟩
        all_goals
          go_wp2_with fail
          refine (HA.out _).mono ?_
          rintro e u1 ⟨rfl, rfl⟩
          go_wp2_with (at_builtin; refine push_int hown rfl _ _ rfl _ (by rfl) (by rfl) hlen hqs ?_; intro v' w4 hown4 hg4 hat4)
          go_roundw
          case rel => exact ⟨j + 1, n + 1, by go_num, by go_num, by omega, by omega, by have := HLS.out; omega, by rw [HMT.out, HCD.out]; exact hown4, hq.grown hg4 (fun k h => (hown.lt k h).1)⟩
          case measure => simp [intOf]; omega
    · have he : j = n0 := by omega
      subst he
      have hvl := plG_vld 0 (xs0.take j)
      have hll : (plG 0 (xs0.take j)).length = j := by rw [plG_length, List.length_take]; have := HL.out; omega
      obtain ⟨gs, hg1, hg2, hg3⟩ := groups_of _ (plG_cls 0 (xs0.take j)) (plG_hd _)
      rw [← HN.out] at hg3
      have hvg : ∀ g ∈ gs, ∀ c ∈ g, vld c = true := by
        intro g hg c hc
        exact hvl c (by rw [hg1]; exact List.mem_flatten.2 ⟨g, hg, hc⟩)
      have hgl : ∀ g ∈ gs, g.length ≤ 12 := by
        intro g hg
        have := flat_len gs g hg
        rw [← hg1, hll] at this
        omega
      have hpg := pcs_groups gs hvg hg2
      rw [← hg1] at hpg
      have hown := hown.lst
      have hjs : (txt (plG 0 (xs0.take j))).size ≤ 48 := by
        have := joinL_length (plG 0 (xs0.take j))
        rw [← size_list, txt_list]
        omega
      have hjn := fun (v : Value) (w : World) (h : Lst w v (plG 0 (xs0.take j))) => join_any v (plG 0 (xs0.take j)) w h (by omega)
      rw [show (⟨(joinL (plG 0 (xs0.take j))).toArray⟩ : ByteArray) = txt (plG 0 (xs0.take j)) from rfl] at hjn
      obtain ⟨ao, co, rfl, _, _⟩ := hown.form0 hll
      have HO := Lib.hid hown
      have hgt : ∀ k, k < n → ∃ g, (gs.map txt)[k]? = some (txt g) ∧ (∀ w, Calls Try.prog 30 #[.string (txt g)] w fun e w' => ∃ v, e = .returned v ∧ Own w' w.heap.size v g ∧ Q w w') ∧ plainB g = true ∧ oneB (txt g).data.toList = true ∧ g.length ≤ 12 ∧ (txt g).size ≤ 48 := by
        intro k hk
        have hkl : k < gs.length := by omega
        have hm : gs[k] ∈ gs := List.getElem_mem hkl
        have hl12 := hgl _ hm
        have hts : (txt gs[k]).size ≤ 48 := by
          have := joinL_length gs[k]
          rw [← size_list, txt_list]
          omega
        refine ⟨gs[k], by rw [List.getElem?_map, List.getElem?_eq_getElem hkl]; rfl, fun w => ?_, plain_grp _ (hg2 _ hm), ?_, hl12, hts⟩
        · have := all_any (txt gs[k]) w (by omega)
          rw [txt_list, allL_join _ (hvg _ hm)] at this
          exact this
        · rw [oneB_eq, txt_list, begL_join _ (hvg _ hm), cnt_grp _ (hg2 _ hm)]; rfl
      have hpl : (gs.map txt).length = n := by rw [List.length_map, hg3]
      have HGT := Lib.hid hgt
      have HPL := Lib.hid hpl
      have HPG := Lib.hid hpg
      have HJN := Lib.hid hjn
      clear hgt hpl hpg hjn hg1 hg2 hg3 hvg hgl hvl hll hown
      generalize txt (plG 0 (xs0.take j)) = S at hjs HPG HJN
      generalize gs.map txt = ps at HGT HPL HPG
      have hnot : (¬ (j : Int) < (L0 : Int)) ∨ ((j : Int) < (L0 : Int) ∧ ¬ (j : Int) < 12) := by omega
      rcases hnot with hn1 | ⟨hn1, hn2⟩
      all_goals
        go_wp2_with fail
        refine (HJN.out _ _ HO.out).mono ?_
        rintro e u1 ⟨rfl, hq1⟩
        go_wp2_with fail
        refine (csplit_any S _ (by omega)).mono ?_
        rintro e u2 ⟨vs, rfl, hvs, hq2⟩
        rw [HPG.out] at hvs
        have hls := hvs.lst
        obtain ⟨asp, csp, rfl, _, _⟩ := hls.form0 HPL.out
        have HLS := Lib.hid hls
        have hqq2 := (hq.trans hq1).trans hq2
        clear hvs hls
        go_wp2_with fail
        go_loopw [8] (fun i wi => ∃ k : Nat, i = .int .i64 k ∧ k ≤ n ∧ Q u2 wi) (fun i _ => n - (intOf i).toNat)
        case atStart => exact ⟨0, rfl, by omega, Q.refl _⟩
        case round =>
          obtain ⟨k, rfl, hk, hqi⟩ := hrel
          by_cases hkn : k < n
          · obtain ⟨g, hgk, hga, hgp, hgo, hgl, hgs⟩ := HGT.out k hkn
            obtain ⟨g2, o2, k2, hv2, hgb, _, _, d1⟩ := (HLS.out.q hqi).cellOf HPL.out hgk
            cases hv2
            have hpl := fun (v : Value) (w : World) (h : Lst w v g) => plain_any v g w h (by omega)
            rw [hgp] at hpl
            have hon := fun w => cone_any (txt g) w (by omega)
            rw [hgo] at hon
            have HGA := Lib.hid hga
            have HPB := Lib.hid hpl
            have HON := Lib.hid hon
            clear hga hpl hon hgp hgo hgk
            generalize txt g = t at d1 HGA HON hgs
            go_wp2_with fail
            refine (HGA.out _).mono ?_
            rintro e u3 ⟨va, rfl, hva, hq3⟩
            go_wp2_with fail
            refine (HPB.out _ _ hva.lst).mono ?_
            rintro e u4 ⟨rfl, hq4⟩
            have hq34 := hq3.trans hq4
            have d2 := (World.cell?_of_block (w := wr) (a := ⟨g2, o2 + k, none⟩) (hq34.block hgb)).trans d1
            go_wp2_with fail
            refine (HON.out _).mono ?_
            rintro e u5 ⟨rfl, hq5⟩
            go_wp2_with fail
            go_roundw
            case rel => exact ⟨k + 1, by go_num, by omega, (hqi.trans hq34).trans hq5⟩
            case measure => simp [intOf]; omega
          · have hke : k = n := by omega
            clear hke
            go_wp2_with fail
            refine (Gr.lives_any _).mono ?_
            rintro e u3 ⟨rfl, hq3⟩
            go_wp2_with fail
            go_ret
            exact ⟨rfl, (hqq2.trans hqi).trans hq3⟩

set_option maxRecDepth 100000 in
theorem lifted (os : Os) (started : os.Started) (H : Type) (enc : TypeId × Value → H) :
    ReturnsInHanded {} Try.checked os 7 .any (Rows.clusterPlainSpec.pre6 enc Try.prog Try.f7 Rows.clusterPlainRow.domain false) (Rows.clusterPlainSpec.post enc Try.prog Try.f7 false true false false) := by
  refine returnsInHanded_of_change (C := Try.checked) own started (by kernel_rfl) Try.func7
    (ChangeSpec.witness6 (enc := enc) (C := Try.checked) false ⟨#[], #[.slice none 0 0], []⟩ 8 (by kernel_rfl) (by kernel_rfl) (by kernel_rfl) (by kernel_rfl)) ?_
  intro W base args ds gs before hval0 hW hcnd _
  have hval : ∀ (j : Nat) t v, Try.f7.params[j]? = some t → args[j]? = some v → Value.okWide Try.prog W .any base t v := hval0
  have hW' := hW
  obtain ⟨p, q, hA0, hV, rfl, hfz, hnd⟩ := hW
  have hA : DataW.TrodAll enc Try.prog W 0 (fun _ => true) true Try.f7.params.toList args.toList ds p := hA0
  rw [Try.params7] at hA hval
  obtain ⟨v0, vs0, d0, ds0, p0, q0, hargs, rfl, rfl, h0, r0⟩ := trodAll_cons hA
  obtain ⟨rfl, rfl, rfl⟩ := trodAll_nil r0
  obtain rfl : args = #[v0] := by cases args; simp_all
  obtain ⟨rfl, rfl⟩ := trodVars_none hV
  obtain ⟨a0, len0, cap0, rfl⟩ := okWide_slice Try.underlying22 (hval 0 22 v0 rfl rfl)
  have k0 := h0
  have lt0 : ∀ x ∈ p0, x.block < W.heap.size := by obtain ⟨m, hm⟩ := k0; exact DataW.trod_lt m _ _ _ hm
  obtain ⟨z0, w0⟩ : ∃ zs, IsRow .i64 W a0 len0 cap0 zs := by
    obtain ⟨fuel, hf⟩ := h0
    rcases open_ints Try.underlying22 Try.underlying3 (by kernel_rfl) hf with ⟨hcs, _⟩ | ⟨x, l, c, zs, hcs, _, hl, hm, hz, _, hcell, hwz⟩
    · simp [Value.cells] at hcs
      obtain ⟨rfl, rfl, rfl⟩ := hcs
      exact ⟨[], .inl ⟨rfl, rfl, rfl, rfl⟩⟩
    · simp [Value.cells] at hcs
      obtain ⟨rfl, rfl, rfl⟩ := hcs
      exact ⟨zs, .inr ⟨_, rfl, hl, hm, by simpa using hz, hcell, hwz⟩⟩
  obtain ⟨xs0, l0, _, b0⟩ := w0.lst
  clear hA0 hval0
  refine (walk W (.slice a0 len0 cap0) xs0 l0 b0).mono fun e W' ⟨he, bel⟩ => ?_
  subst he
  exact ⟨_, rfl, _, _, _, [], _, [], hW', trodAll_mk1 (shut_bool Try.underlying4 _), (trodAll_cons_mk (Below.trod laidOut (by kernel_rfl) (of_decide_eq_true (by kernel_rfl)) k0 bel lt0) trodAll_mk0), rfl, bel.below.frame _, fun h => by cases h⟩

/-- The statement. -/
theorem proved : Rows.ClusterPlainSaid :=
  OpenClaim.holds_of_wide 7 Try.f7 rfl rfl rfl rfl rfl rfl rfl ⟨rfl, rfl, rfl, rfl, rfl⟩ rfl rfl rfl rfl rfl (by kernel_rfl) Try.func7 (by kernel_rfl)
    (of_decide_eq_true (by kernel_rfl)) (by unfold Func.isWrapper; first | (rw [if_pos (by decide +kernel)]; kernel_rfl) | (rw [if_neg (by decide +kernel)]; exact ⟨rfl, rfl⟩))
    (fun os started H enc _ => lifted os started H enc)
#print axioms proved
end Go.Proofs.Ytmbmopiicofhdaa.clusterPlain
