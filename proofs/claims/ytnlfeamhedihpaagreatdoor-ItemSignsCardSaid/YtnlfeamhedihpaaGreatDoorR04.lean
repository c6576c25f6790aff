/- What the document's own answers on characters and their bytes come to, by a walk through each. (and more) -/
import Derived.Test.YtnlfeamhedihpaaGreatDoorR00
import Derived.Test.YtnlfeamhedihpaaGreatDoorR02
import Derived.Test.YtnlfeamhedihpaaGreatDoorRows
import Derived.Test.YtnlfeamhedihpaaGreatDoorR01
import Derived.Deep.QuietTactic
import Derived.Deep.RegionWith
import Derived.BigQuiet
import Derived.ShutString
import Derived.Laws.BytesArg
import Derived.Lib.Hide
import Derived.Maps.OwnSet
import Derived.Maps.RangeWalk
import Derived.Shelf.Sort.Plain
import Derived.Sort.OwnSorted
set_option linter.unusedVariables false
set_option linter.unusedSimpArgs false
namespace Go.Proofs.YtnlfeamhedihpaaGreatDoor
open Go.RowKit Um
namespace Ur
def few (s : ByteArray) (n : Nat) : ByteArray := if n < s.size then s.extract 0 n else s
theorem convN (w : World) (xs : List Int) (n : Nat) (hn : xs.length = n) :
    (convert 79 9 (.slice (some ⟨w.heap.size, 0, none⟩) n n)).run Tryz.prog (w.alloc (.cells (xs.map (Value.int .u8)).toArray 5)) = .ok (.string (strOfNums xs)) (w.alloc (.cells (xs.map (Value.int .u8)).toArray 5)) := by
  refine run_convert_bytes_arg _ 79 5 Tryz.underlying79 Tryz.underlying5 w.heap.size 0 n n xs hn ?_ 9 Tryz.underlying9
  intro i hi
  rw [World.cell?_alloc_at _ _ _ _ rfl, Nat.zero_add]
  simp only [List.getElem?_toArray, List.getElem?_map, List.getD_eq_getElem?_getD]
  rw [List.getElem?_eq_getElem (by omega)]; rfl
theorem strOfNums_enc {xs : List Int} {c : Int} (hv : vld c = true) (h : xs.map (fun n => UInt8.ofNat n.toNat) = enc c) : strOfNums xs = encB c := by
  apply ba_ext
  rw [strOfNums_data, encB_list c hv, h]
theorem ofNat_congr {a b : Nat} (h : a = b) : UInt8.ofNat a = UInt8.ofNat b := by rw [h]
set_option maxHeartbeats 400000 in
theorem encode_any (c : Int) (w : World) :
    Calls Tryz.prog 58 #[.int .i64 c] w fun e w' => e = .returned (.string (encB c)) ∧ Q w w' := by
  by_cases hv : vld c = true
  · have hb := (vld_iff c).1 hv
    have hm := fun w => may_any c w
    rw [hv] at hm
    have HM := Lib.hid hm
    have HV := Lib.hid hv
    clear hm hv
    have hc1 := fun (x : Int) => convN w [x] 1 rfl
    have hc2 := fun (x y : Int) => convN w [x, y] 2 rfl
    have hc3 := fun (x y z : Int) => convN w [x, y, z] 3 rfl
    have hc4 := fun (x y z u : Int) => convN w [x, y, z, u] 4 rfl
    simp only [List.map_cons, List.map_nil] at hc1 hc2 hc3 hc4
    by_cases h1 : c < 128
    · have HE := Lib.hid (enc1 c hb.1 h1)
      go_enter Tryz.func58, Tryz.ntmps58
      go_wp2_with (go_at_call 104; refine (HM.out _).mono ?_; rintro e w' ⟨rfl, rfl⟩)
      go_ret
      refine ⟨ret_str (strOfNums_enc HV.out ?_), (Q.refl _).alloc _⟩
      rw [HE.out]; rfl
    · by_cases h2 : c < 2048
      · have HE := Lib.hid (enc2 c (by omega) h2)
        go_enter Tryz.func58, Tryz.ntmps58
        go_wp2_with (go_at_call 104; refine (HM.out _).mono ?_; rintro e w' ⟨rfl, rfl⟩)
        go_ret
        refine ⟨ret_str (strOfNums_enc HV.out ?_), (Q.refl _).alloc _⟩
        rw [HE.out]
        simp only [List.map_cons, List.map_nil, List.cons.injEq, and_true]
        exact ⟨ofNat_congr (by omega), ofNat_congr (by omega)⟩
      · by_cases h3 : c < 65536
        · have HE := Lib.hid (enc3 c (by omega) h3 HV.out)
          go_enter Tryz.func58, Tryz.ntmps58
          go_wp2_with (go_at_call 104; refine (HM.out _).mono ?_; rintro e w' ⟨rfl, rfl⟩)
          go_ret
          refine ⟨ret_str (strOfNums_enc HV.out ?_), (Q.refl _).alloc _⟩
          rw [HE.out]
          simp only [List.map_cons, List.map_nil, List.cons.injEq, and_true]
          exact ⟨ofNat_congr (by omega), ofNat_congr (by omega), ofNat_congr (by omega)⟩
        · have HE := Lib.hid (enc4 c (by omega) HV.out)
          go_enter Tryz.func58, Tryz.ntmps58
          go_wp2_with (go_at_call 104; refine (HM.out _).mono ?_; rintro e w' ⟨rfl, rfl⟩)
          go_ret
          refine ⟨ret_str (strOfNums_enc HV.out ?_), (Q.refl _).alloc _⟩
          rw [HE.out]
          simp only [List.map_cons, List.map_nil, List.cons.injEq, and_true]
          exact ⟨ofNat_congr (by omega), ofNat_congr (by omega), ofNat_congr (by omega), ofNat_congr (by omega)⟩
  · have hv : vld c = false := by simpa using hv
    have HE : Hid (encB c = ⟨#[]⟩) := by unfold encB; exact if_neg (by simp [hv])
    have hm := fun w => may_any c w
    rw [hv] at hm
    have HM := Lib.hid hm
    clear hm hv
    go_enter Tryz.func58, Tryz.ntmps58
    go_wp2_with (go_at_call 104; refine (HM.out _).mono ?_; rintro e w' ⟨rfl, rfl⟩)
    go_ret
    rw [HE.out]
    exact ⟨rfl, Q.refl _⟩
theorem u8b (a : UInt8) : 0 ≤ (a.toNat : Int) ∧ (a.toNat : Int) ≤ 255 := by have := a.toNat_lt; omega
set_option maxHeartbeats 400000 in
theorem value1 (a : UInt8) (w : World) :
    Calls Tryz.prog 140 #[.string ⟨#[a]⟩] w fun e w' => e = .returned (.int .i64 ((a.toNat : Int))) ∧ w = w' := by
  have h0 : 0 ≤ (((⟨#[a]⟩ : ByteArray)[0]'(by show 0 < 1; omega)).toNat : Int) ∧ (((⟨#[a]⟩ : ByteArray)[0]'(by show 0 < 1; omega)).toNat : Int) ≤ 255 := u8b a
  go_enter Tryz.func140, Tryz.ntmps140
  go_wp2
  refine wp_loop_rounds 1 ?_
  rw [rounds_succ]
  go_wp2
  go_ret
  exact ⟨rfl, rfl⟩
set_option maxHeartbeats 400000 in
theorem value2 (a b : UInt8) (w : World) :
    Calls Tryz.prog 140 #[.string ⟨#[a, b]⟩] w fun e w' => e = .returned (.int .i64 (((a.toNat : Int) - 192) * 64 + (b.toNat : Int) - 128)) ∧ w = w' := by
  have h0 : 0 ≤ (((⟨#[a, b]⟩ : ByteArray)[0]'(by show 0 < 2; omega)).toNat : Int) ∧ (((⟨#[a, b]⟩ : ByteArray)[0]'(by show 0 < 2; omega)).toNat : Int) ≤ 255 := u8b a
  have h1 : 0 ≤ (((⟨#[a, b]⟩ : ByteArray)[1]'(by show 1 < 2; omega)).toNat : Int) ∧ (((⟨#[a, b]⟩ : ByteArray)[1]'(by show 1 < 2; omega)).toNat : Int) ≤ 255 := u8b b
  go_enter Tryz.func140, Tryz.ntmps140
  go_wp2
  refine wp_loop_rounds 2 ?_
  rw [rounds_succ]
  go_wp2
  rw [rounds_succ]
  go_wp2
  go_ret
  exact ⟨rfl, rfl⟩
set_option maxHeartbeats 400000 in
theorem value3 (a b c : UInt8) (w : World) :
    Calls Tryz.prog 140 #[.string ⟨#[a, b, c]⟩] w fun e w' => e = .returned (.int .i64 ((((a.toNat : Int) - 224) * 64 + (b.toNat : Int) - 128) * 64 + (c.toNat : Int) - 128)) ∧ w = w' := by
  have h0 : 0 ≤ (((⟨#[a, b, c]⟩ : ByteArray)[0]'(by show 0 < 3; omega)).toNat : Int) ∧ (((⟨#[a, b, c]⟩ : ByteArray)[0]'(by show 0 < 3; omega)).toNat : Int) ≤ 255 := u8b a
  have h1 : 0 ≤ (((⟨#[a, b, c]⟩ : ByteArray)[1]'(by show 1 < 3; omega)).toNat : Int) ∧ (((⟨#[a, b, c]⟩ : ByteArray)[1]'(by show 1 < 3; omega)).toNat : Int) ≤ 255 := u8b b
  have h2 : 0 ≤ (((⟨#[a, b, c]⟩ : ByteArray)[2]'(by show 2 < 3; omega)).toNat : Int) ∧ (((⟨#[a, b, c]⟩ : ByteArray)[2]'(by show 2 < 3; omega)).toNat : Int) ≤ 255 := u8b c
  go_enter Tryz.func140, Tryz.ntmps140
  go_wp2
  refine wp_loop_rounds 3 ?_
  rw [rounds_succ]
  go_wp2
  rw [rounds_succ]
  go_wp2
  rw [rounds_succ]
  go_wp2
  go_ret
  exact ⟨rfl, rfl⟩
set_option maxHeartbeats 400000 in
theorem value4 (a b c d : UInt8) (w : World) :
    Calls Tryz.prog 140 #[.string ⟨#[a, b, c, d]⟩] w fun e w' => e = .returned (.int .i64 (((((a.toNat : Int) - 240) * 64 + (b.toNat : Int) - 128) * 64 + (c.toNat : Int) - 128) * 64 + (d.toNat : Int) - 128)) ∧ w = w' := by
  have h0 : 0 ≤ (((⟨#[a, b, c, d]⟩ : ByteArray)[0]'(by show 0 < 4; omega)).toNat : Int) ∧ (((⟨#[a, b, c, d]⟩ : ByteArray)[0]'(by show 0 < 4; omega)).toNat : Int) ≤ 255 := u8b a
  have h1 : 0 ≤ (((⟨#[a, b, c, d]⟩ : ByteArray)[1]'(by show 1 < 4; omega)).toNat : Int) ∧ (((⟨#[a, b, c, d]⟩ : ByteArray)[1]'(by show 1 < 4; omega)).toNat : Int) ≤ 255 := u8b b
  have h2 : 0 ≤ (((⟨#[a, b, c, d]⟩ : ByteArray)[2]'(by show 2 < 4; omega)).toNat : Int) ∧ (((⟨#[a, b, c, d]⟩ : ByteArray)[2]'(by show 2 < 4; omega)).toNat : Int) ≤ 255 := u8b c
  have h3 : 0 ≤ (((⟨#[a, b, c, d]⟩ : ByteArray)[3]'(by show 3 < 4; omega)).toNat : Int) ∧ (((⟨#[a, b, c, d]⟩ : ByteArray)[3]'(by show 3 < 4; omega)).toNat : Int) ≤ 255 := u8b d
  go_enter Tryz.func140, Tryz.ntmps140
  go_wp2
  refine wp_loop_rounds 4 ?_
  rw [rounds_succ]
  go_wp2
  rw [rounds_succ]
  go_wp2
  rw [rounds_succ]
  go_wp2
  rw [rounds_succ]
  go_wp2
  go_ret
  exact ⟨rfl, rfl⟩
theorem value_any (s : ByteArray) (w : World) (h1 : 1 ≤ s.size) (h4 : s.size ≤ 4) :
    Calls Tryz.prog 140 #[.string s] w fun e w' => e = .returned (.int .i64 (val s.data.toList)) ∧ w = w' := by
  obtain ⟨⟨l⟩⟩ := s
  match l, h1, h4 with
  | [a], _, _ => exact value1 a w
  | [a, b], _, _ => exact value2 a b w
  | [a, b, c], _, _ => exact value3 a b c w
  | [a, b, c, d], _, _ => exact value4 a b c d w
  | [], h1, _ => exact absurd h1 (by show ¬ 1 ≤ 0; omega)
  | a :: b :: c :: d :: e :: r, _, h4 => exact absurd h4 (by show ¬ r.length + 5 ≤ 4; omega)
theorem extract_take (s : ByteArray) (k : Nat) : (s.extract 0 k).data.toList = s.data.toList.take k := by
  rw [ByteArray.data_extract, Array.toList_extract, List.extract_eq_take_drop]
  simp
theorem toList_eq (s : ByteArray) : s.toList = s.data.toList := ByteArray.toList_eq s
set_option maxHeartbeats 800000 in
theorem first_any (s : ByteArray) (w : World) (hm : s.size ≤ maxLen) :
    Calls Tryz.prog 108 #[.string s] w fun e w' => e = .returned (.tuple #[.int .i64 (fst3 s.data.toList).1, .int .i64 (fst3 s.data.toList).2.1, .bool (fst3 s.data.toList).2.2]) ∧ Q w w' := by
  unfold maxLen at hm
  have hsl := size_list s
  by_cases hs : s.size = 0
  · have hl : s.data.toList = [] := by apply List.eq_nil_of_length_eq_zero; omega
    have HF : Hid (fst3 s.data.toList = (0, 0, false)) := by rw [hl]; rfl
    have h1 : s.toList.isEmpty = true := by rw [toList_eq, hl]; rfl
    clear hl hs hsl
    go_enter Tryz.func108, Tryz.ntmps108
    go_wp2_with fail
    go_ret3
    rw [HF.out]
    exact ⟨rfl, Q.refl _⟩
  · have hl : s.data.toList ≠ [] := by intro h; apply hs; have := congrArg List.length h; simpa using this
    have h1 : s.toList.isEmpty = false := by rw [toList_eq]; simpa using hl
    have HL := Lib.hid hsl
    clear hsl
    go_enter Tryz.func108, Tryz.ntmps108
    go_wp2_with fail
    go_loopw [5] (fun n wr => ∃ k : Nat, n = .int .i64 k ∧ 1 ≤ k ∧ k ≤ 5 ∧ k ≤ s.size + 1 ∧ Q w wr ∧ noFront s.data.toList k) (fun n _ => 5 - (intOf n).toNat)
    case atStart => exact ⟨1, rfl, by omega, by omega, by omega, Q.refl _, noFront_start _⟩
    case round =>
      obtain ⟨k, rfl, hk1, hk5, hks, hq, hno⟩ := hrel
      by_cases h4 : k ≤ 4
      · by_cases h5 : k ≤ s.size
        · have hV := Lib.hid (fun w => value_any (s.extract 0 k) w (by rw [ByteArray.size_extract]; omega) (by rw [ByteArray.size_extract]; omega))
          have hst := Lib.hid (noFront_step _ k hno)
          have hfo := Lib.hid (front_found s.data.toList k hk1 (by rw [HL.out]; exact h5))
          go_wp2_with fail
          refine (hV.out _).mono ?_
          rintro e w1 ⟨rfl, rfl⟩
          rw [extract_take]
          go_wp2_with fail
          go_region_with (go_at_call 58; refine (encode_any _ _).mono ?_; rintro e w1 ⟨rfl, hq1⟩)
          all_goals go_wp2_with fail
          · have hb : ((encB (val (List.take k s.data.toList))).toList == (s.extract 0 k).toList) = true := by assumption
            have hb := beq_iff_eq.1 hb
            rw [toList_eq, toList_eq, extract_take] at hb
            have hf := hfo.out hb
            go_ret3
            rw [hf]
            exact ⟨rfl, hq.drew.trans hq1⟩
          · have hb : ((encB (val (List.take k s.data.toList))).toList == (s.extract 0 k).toList) = false := by assumption
            have hb := beq_eq_false_iff_ne.1 hb
            rw [toList_eq, toList_eq, extract_take] at hb
            exact ⟨⟨k + 1, by go_num, by omega, by omega, by omega, hq.drew.trans hq1, hst.out hb⟩, by simp [intOf]; omega⟩
        · have HF : Hid (fst3 s.data.toList = (65533, 1, false)) := Lib.hid (noFront_end _ k hl hno (.inr (by rw [HL.out]; omega)))
          go_wp2_with fail
          go_ret3
          rw [HF.out]
          exact ⟨rfl, hq⟩
      · have HF : Hid (fst3 s.data.toList = (65533, 1, false)) := Lib.hid (noFront_end _ k hl hno (.inl (by omega)))
        go_wp2_with fail
        go_ret3
        rw [HF.out]
        exact ⟨rfl, hq⟩
theorem extract_list (s : ByteArray) (pos : Nat) : (s.extract pos s.size).data.toList = s.data.toList.drop pos := by
  rw [ByteArray.data_extract, Array.toList_extract]
  have : s.size = s.data.toList.length := (size_list s).symm
  rw [List.extract_eq_take_drop, this, List.take_of_length_le (by simp)]
set_option maxHeartbeats 800000 in
theorem all_any (s : ByteArray) (w : World) (hm : s.size ≤ 1073741824) :
    Calls Tryz.prog 61 #[.string s] w fun e w' => ∃ v u, e = .returned (.tuple #[v, u, .bool (okL s.data.toList)]) ∧ Own w' w.heap.size v (allL s.data.toList) ∧ Own w' w.heap.size u (startsL s.data.toList) ∧ Apart v u ∧ Q w w' := by
  have hml := marks_length s.data.toList
  rw [size_list] at hml
  have HML := Lib.hid hml
  clear hml
  go_enter Tryz.func61, Tryz.ntmps61
  go_wp2_with fail
  go_loopw [5, 6, 7, 8] (fun v u b at' wr => ∃ (pos : Nat) (acc sta : List Int) (ok : Bool), at' = .int .i64 pos ∧ b = .bool ok ∧ pos ≤ s.size ∧ Own wr w.heap.size v acc ∧ Own wr w.heap.size u sta ∧ Apart v u ∧ Q w wr ∧
      acc ++ allL (s.data.toList.drop pos) = allL s.data.toList ∧ sta ++ startsF pos (marks (s.data.toList.drop pos)) = startsL s.data.toList ∧ (ok && (marks (s.data.toList.drop pos)).all (·.2.2)) = okL s.data.toList)
    (fun _ _ _ at' _ => s.size - (intOf at').toNat)
  case atStart => exact ⟨0, [], [], true, rfl, rfl, by omega, Own.nil _ _, Own.nil _ _, Apart.nilL _, Q.refl _, by simp, by simp [startsL], by simp [okL]⟩
  case round =>
    obtain ⟨pos, acc, sta, ok, rfl, rfl, hps, hv, hu, hap, hq, ha, hs, ho⟩ := hrel
    have hal : acc.length ≤ s.size := by
      have h1 := congrArg List.length ha
      simp only [allL, List.length_append, List.length_map] at h1
      have := HML.out; omega
    have hsl : sta.length ≤ s.size := by
      have h1 := congrArg List.length hs
      simp only [startsL, List.length_append, startsF_length] at h1
      have := HML.out; omega
    have hsq := hq.le
    have HA := Lib.hid ha
    have HS := Lib.hid hs
    have HO := Lib.hid ho
    clear ha hs ho
    by_cases hp : pos < s.size
    · have hwd := mark_at_n s pos hp
      have hF : ∀ w, Calls Tryz.prog 108 #[.string (s.extract pos s.size)] w _ := fun w => first_any (s.extract pos s.size) w (by rw [ByteArray.size_extract]; unfold maxLen; omega)
      rw [extract_list] at hF
      have hf3 : fst3 (s.data.toList.drop pos) = ((mrk (s.data.toList.drop pos)).1, ((mrk (s.data.toList.drop pos)).2.1 : Int), (mrk (s.data.toList.drop pos)).2.2) := by unfold fst3; rw [if_neg (drop_ne hp)]
      rw [hf3] at hF
      simp only at hF
      have hm1 := marks_at s pos hp
      have HM := Lib.hid hm1
      have HF := Lib.hid hF
      clear hF hf3 hm1
      go_wp2_with fail
      refine (HF.out _).mono ?_
      rintro e w1 ⟨rfl, hq1⟩
      have hv1 := hv.q hq1
      have hu1 := hu.q hq1
      have hqw1 := hq.trans hq1
      have hsq1 := hqw1.le
      go_wp2_with (at_builtin; refine push_int hv1 rfl _ _ rfl _ (by rfl) (by rfl) (by omega) hsq1 ?_)
      intro v2 w2 hv2 hg2 hat2
      have hu2 := hu1.other hg2 hap
      have hap2 := hap.push hu1 hat2
      have hqw2 := hqw1.grown hg2 (fun g h => (hv1.lt g h).1)
      have hsq2 := hqw2.le
      go_wp2_with (at_builtin; refine push_int hu2 rfl _ _ rfl _ (by rfl) (by rfl) (by omega) hsq2 ?_)
      intro u3 w3 hu3 hg3 hat3
      have hv3 := hv2.other hg3 hap2.symm
      have hap3 := (hap2.symm.push hv2 hat3).symm
      have hqw3 := hqw2.grown hg3 (fun g h => (hu2.lt g h).1)
      have hfin : (∃ (pos' : Nat) (acc' sta' : List Int) (ok' : Bool), Value.int .i64 ((pos : Int) + ((mrk (s.data.toList.drop pos)).2.1 : Int)) = .int .i64 pos' ∧ Value.bool (ok && (mrk (s.data.toList.drop pos)).2.2) = .bool ok' ∧ pos' ≤ s.size ∧ Own w3 w.heap.size v2 acc' ∧ Own w3 w.heap.size u3 sta' ∧ Apart v2 u3 ∧ Q w w3 ∧
          acc' ++ allL (s.data.toList.drop pos') = allL s.data.toList ∧ sta' ++ startsF pos' (marks (s.data.toList.drop pos')) = startsL s.data.toList ∧ (ok' && (marks (s.data.toList.drop pos')).all (·.2.2)) = okL s.data.toList) := by
        refine ⟨pos + (mrk (s.data.toList.drop pos)).2.1, _, _, _, by rw [Int.natCast_add], rfl, hwd.2, hv3, hu3, hap3, hqw3, ?_, ?_, ?_⟩
        · rw [← HA.out]; unfold allL; conv => rhs; rw [HM.out]
          simp
        · rw [← HS.out, HM.out]; simp [startsF]
        · rw [← HO.out, HM.out, List.all_cons, Bool.and_assoc]
      have HFin := Lib.hid hfin
      clear hfin
      cases ok
      all_goals
        go_wp2_with fail
        exact ⟨HFin.out, by simp [intOf]; omega⟩
    · have hpe : pos = s.size := by omega
      subst hpe
      go_wp2_with (at_builtin; refine push_int hu rfl _ _ rfl _ (by rfl) (by rfl) (by omega) hsq ?_)
      intro u3 w3 hu3 hg3 hat3
      have hv3 := hv.other hg3 hap.symm
      have hap3 := (hap.symm.push hv hat3).symm
      have hqw3 := hq.grown hg3 (fun g h => (hu.lt g h).1)
      go_wp2_with fail
      go_ret3
      have h1 := HA.out; have h2 := HS.out; have h3 := HO.out
      unfold allL at h1
      rw [marks_end s s.size (by omega)] at h1 h2 h3
      rw [List.map_nil, List.append_nil] at h1
      refine ⟨_, _, ?_, ?_, ?_, hap3, hqw3⟩
      · rw [← h3, List.all_nil, Bool.and_true]; rfl
      · unfold allL; rw [← h1]; exact hv3
      · rw [← h2]; exact hu3
end Ur
end Go.Proofs.YtnlfeamhedihpaaGreatDoor
namespace Go.Proofs.YtnlfeamhedihpaaGreatDoor.Gm
open Um Cm
structure St where
  k : Int
  d : Bool
  s : Bool
  o : Bool
def st0 : St := ⟨-1, false, false, false⟩
def alB (k : Int) : Bool := decide (k = 3) || decide (k = 1) || decide (k = 2)
def sylB (a k : Int) : Bool :=
  if a = 9 then decide (k = 9) || decide (k = 10) || decide (k = 12) || decide (k = 13)
  else if a = 12 ∨ a = 10 then decide (k = 10) || decide (k = 11)
  else if a = 13 ∨ a = 11 then decide (k = 11) else false
def pairB (a k : Int) : Bool :=
  if a = -1 then false else if a = 1 ∧ k = 2 then true else if alB a = true ∨ alB k = true then false
  else if k = 4 ∨ k = 5 ∨ k = 8 then true else if a = 7 then true else sylB a k
def stp (t : St) (k : Int) : St := ⟨k, decide (k = 14) || (t.d && decide (k = 4)), t.d && decide (k = 5), decide (k = 6) && !t.o⟩
def jn (t : St) (k : Int) : Bool := pairB t.k k || (t.s && decide (k = 14)) || (t.o && decide (k = 6))
def stR : List Nat → St
  | [] => st0
  | k :: r => stp (stR r) k
def stL (l : List Int) : St := l.foldl (fun t c => stp t (cls c)) st0
theorem stL_snoc (l : List Int) (c : Int) : stL (l ++ [c]) = stp (stL l) (cls c) := by simp [stL]
theorem stL_rev (l : List Int) : stL l = stR (l.map cls).reverse := by
  have h : ∀ r : List Int, stL r.reverse = stR (r.map cls) := by
    intro r
    induction r with
    | nil => rfl
    | cons c r ih => rw [List.reverse_cons, stL_snoc, ih]; rfl
  have := h l.reverse
  rw [List.reverse_reverse] at this
  rw [this, List.map_reverse]
theorem stR_d (r : List Nat) : (stR r).d = decide ((r.dropWhile (· == 4)).head? = some 14) := by
  induction r with
  | nil => rfl
  | cons k r ih =>
    show (decide ((k : Int) = 14) || ((stR r).d && decide ((k : Int) = 4))) = _
    rw [ih]
    by_cases h : k = 4
    · subst h; simp
    · have h1 : ((k : Int) = 4) = False := by simp; omega
      rw [List.dropWhile_cons_of_neg (by simpa using h)]
      simp only [h1, decide_false, Bool.and_false, Bool.or_false, List.head?_cons, Option.some.injEq]
      rw [decide_eq_decide]; omega
theorem stR_o (r : List Nat) : (stR r).o = decide ((r.takeWhile (· == 6)).length % 2 = 1) := by
  induction r with
  | nil => rfl
  | cons k r ih =>
    show (decide ((k : Int) = 6) && !(stR r).o) = _
    rw [ih]
    by_cases h : k = 6
    · subst h
      rw [List.takeWhile_cons_of_pos (by simp), List.length_cons]
      rw [show decide (((6 : Nat) : Int) = 6) = true from rfl, Bool.true_and]
      rw [Bool.eq_iff_iff]; simp; omega
    · have h1 : ((k : Int) = 6) = False := by simp; omega
      rw [List.takeWhile_cons_of_neg (by simpa using h)]
      simp [h1]
def refR : List Nat → Int → Bool
  | [], _ => false
  | a :: r, k => if a = 1 ∧ k = 2 then true else if alB a = true ∨ alB k = true then false
    else if sylB a k = true ∨ k = 4 ∨ k = 5 ∨ k = 8 ∨ a = 7 then true
    else if a = 5 ∧ k = 14 then decide ((r.dropWhile (· == 4)).head? = some 14)
    else decide (k = 6) && decide (((a :: r).takeWhile (· == 6)).length % 2 = 1)
theorem stR_inv (r : List Nat) : ((stR r).d = true → (stR r).k = 14 ∨ (stR r).k = 4) ∧ ((stR r).s = true → (stR r).k = 5) ∧ ((stR r).o = true → (stR r).k = 6) := by
  cases r with
  | nil => simp [stR, st0]
  | cons k r =>
    refine ⟨fun h => ?_, fun h => ?_, fun h => ?_⟩
    · have h' : (decide ((k : Int) = 14) || ((stR r).d && decide ((k : Int) = 4))) = true := h
      show (k : Int) = 14 ∨ (k : Int) = 4
      simp at h'; omega
    · have h' : ((stR r).d && decide ((k : Int) = 5)) = true := h
      show (k : Int) = 5
      simp at h'; omega
    · have h' : (decide ((k : Int) = 6) && !(stR r).o) = true := h
      show (k : Int) = 6
      simp at h'; omega
theorem jn_ref (r : List Nat) (k : Int) : jn (stR r) k = refR r k := by
  cases r with
  | nil => simp [jn, stR, st0, refR, pairB]
  | cons a r =>
    have hk : (stR (a :: r)).k = (a : Int) := rfl
    have hs : (stR (a :: r)).s = ((stR r).d && decide ((a : Int) = 5)) := rfl
    have ho := stR_o (a :: r)
    have hi := (stR_inv (a :: r)).2.2
    have hd := stR_d r
    unfold jn
    rw [hk, hs]
    unfold refR pairB
    rw [if_neg (by omega)]
    rw [hk] at hi
    have e1 : ((a : Int) = 1 ∧ k = 2) = (a = 1 ∧ k = 2) := by rw [eq_iff_iff]; omega
    simp only [e1]
    by_cases c1 : a = 1 ∧ k = 2
    · rw [if_pos c1, if_pos c1]; rfl
    · rw [if_neg c1, if_neg c1]
      by_cases c2 : alB (a : Int) = true ∨ alB k = true
      · rw [if_pos c2, if_pos c2]
        rcases c2 with c2 | c2
        · have h5 : ¬ ((a : Int) = 5) := by intro e; rw [e] at c2; revert c2; decide
          have h6 : ¬ (a : Int) = 6 := by intro e; rw [e] at c2; revert c2; decide
          have : (stR (a :: r)).o = false := by
            cases h : (stR (a :: r)).o
            · rfl
            · exact absurd (hi h) h6
          rw [this]; simp [h5]
        · have h5 : ¬ (k = 14) := by intro e; rw [e] at c2; revert c2; decide
          have h6 : ¬ (k = 6) := by intro e; rw [e] at c2; revert c2; decide
          simp [h5, h6]
      · rw [if_neg c2, if_neg c2]
        by_cases c3 : k = 4 ∨ k = 5 ∨ k = 8
        · rw [if_pos c3, if_pos (.inr (by omega))]; rfl
        · rw [if_neg c3]
          by_cases c4 : (a : Int) = 7
          · rw [if_pos c4, if_pos (.inr (by omega))]; rfl
          · rw [if_neg c4]
            by_cases c5 : sylB a k = true
            · rw [if_pos (.inl c5), c5]; rfl
            · rw [if_neg (by rintro (h | h); exact c5 h; omega)]
              have c5' : sylB a k = false := by simpa using c5
              rw [c5', Bool.false_or]
              by_cases c6 : a = 5 ∧ k = 14
              · obtain ⟨rfl, rfl⟩ := c6
                rw [if_pos ⟨rfl, rfl⟩, hd]; simp
              · rw [if_neg c6, ho]
                have : ((stR r).d && decide ((a : Int) = 5) && decide (k = 14)) = false := by
                  by_cases h5 : (a : Int) = 5
                  · have : ¬ k = 14 := fun h => c6 ⟨by omega, h⟩
                    simp [this]
                  · simp [h5]
                rw [this, Bool.false_or, Bool.and_comm]
def stMs (ms : List (Int × Nat × Bool)) : St := stL (ms.map (·.1))
def begF (t : St) (p : Nat) : List (Int × Nat × Bool) → List Int
  | [] => []
  | m :: r => (if jn t (cls m.1) = true then [] else [(p : Int)]) ++ begF (stp t (cls m.1)) (p + m.2.1) r
def begL (l : List UInt8) : List Int := begF st0 0 (marks l)
def width (ms : List (Int × Nat × Bool)) : Nat := (ms.map (·.2.1)).sum
theorem begF_append (t : St) (p : Nat) (a b : List (Int × Nat × Bool)) :
    begF t p (a ++ b) = begF t p a ++ begF ((a.map (·.1)).foldl (fun t c => stp t (cls c)) t) (p + width a) b := by
  induction a generalizing t p with
  | nil => simp [begF, width]
  | cons m a ih =>
    simp only [List.cons_append, begF, ih, List.map_cons, List.foldl_cons, List.append_assoc, width, List.sum_cons]
    rw [Nat.add_assoc]
theorem begF_snoc (ms : List (Int × Nat × Bool)) (m : Int × Nat × Bool) :
    begF st0 0 (ms ++ [m]) = begF st0 0 ms ++ (if jn (stMs ms) (cls m.1) = true then [] else [(width ms : Int)]) := by
  rw [begF_append]
  simp only [begF, List.append_nil, Nat.zero_add]
  rfl
theorem stMs_snoc (ms : List (Int × Nat × Bool)) (m : Int × Nat × Bool) : stMs (ms ++ [m]) = stp (stMs ms) (cls m.1) := by
  unfold stMs; rw [List.map_append]; exact stL_snoc _ _
theorem width_snoc (ms : List (Int × Nat × Bool)) (m : Int × Nat × Bool) : width (ms ++ [m]) = width ms + m.2.1 := by simp [width]
theorem begF_pre (a b : List (Int × Nat × Bool)) : begF st0 0 a <+: begF st0 0 (a ++ b) := by rw [begF_append]; exact List.prefix_append _ _
theorem begF_length (t : St) (p : Nat) (ms : List (Int × Nat × Bool)) : (begF t p ms).length ≤ ms.length := by
  induction ms generalizing t p with
  | nil => simp [begF]
  | cons m ms ih =>
    have := ih (stp t (cls m.1)) (p + m.2.1)
    simp only [begF, List.length_append, List.length_cons]
    split <;> simp <;> omega
theorem begL_length (l : List UInt8) : (begL l).length ≤ l.length := Nat.le_trans (begF_length _ _ _) (marks_length l)
theorem begF_bd (t : St) (p : Nat) (ms : List (Int × Nat × Bool)) : ∀ x ∈ begF t p ms, (p : Int) ≤ x ∧ x ≤ p + width ms := by
  induction ms generalizing t p with
  | nil => simp [begF]
  | cons m ms ih =>
    intro x hx
    have hw : width (m :: ms) = m.2.1 + width ms := by simp [width]
    rw [begF, List.mem_append] at hx
    rcases hx with hx | hx
    · split at hx
      · cases hx
      · rw [List.mem_singleton] at hx; omega
    · have := ih _ _ x hx
      omega
theorem width_marks (l : List UInt8) : width (marks l) = l.length := by
  refine marks_ind (p := fun l => width (marks l) = l.length) rfl ?_ l
  intro l hl ih
  have := mark_n l hl
  rw [marks_cons l hl]
  show (mrk l).2.1 + width (marks (l.drop (mrk l).2.1)) = _
  rw [ih, List.length_drop]; omega
def frsL (l : List UInt8) : Int := ((begL l).find? (fun x => decide (0 < x))).getD l.length
theorem frsL_none (l : List UInt8) (h : ∀ x ∈ begL l, ¬ 0 < x) : frsL l = l.length := by
  unfold frsL
  rw [List.find?_eq_none.2 (by simpa using h)]; rfl
theorem frsL_some (l : List UInt8) (r : List Int) (x : Int) (hp : r ++ [x] <+: begL l) (hx : 0 < x) (h : ∀ y ∈ r, ¬ 0 < y) : frsL l = x := by
  obtain ⟨t, ht⟩ := hp
  unfold frsL
  rw [← ht, List.append_assoc, List.find?_append, List.find?_eq_none.2 (by simpa using h)]
  simp [hx]
end Go.Proofs.YtnlfeamhedihpaaGreatDoor.Gm
namespace Go.Proofs.YtnlfeamhedihpaaGreatDoor
open Go.RowKit Cm
def flat2 (l : List (Int × Int)) : List Value := l.flatMap fun r => [.int .i64 r.1, .int .i64 r.2]
theorem flat2_get (l : List (Int × Int)) (i : Nat) (h : i < l.length) :
    (flat2 l)[i * 2]? = some (.int .i64 (l.getD i (0, 0)).1) ∧ (flat2 l)[i * 2 + 1]? = some (.int .i64 (l.getD i (0, 0)).2) := by
  induction l generalizing i with
  | nil => simp at h
  | cons r l ih =>
    cases i with
    | zero => simp [flat2]
    | succ i =>
      have := ih i (by simpa using h)
      have e : flat2 (r :: l) = .int .i64 r.1 :: .int .i64 r.2 :: flat2 l := by simp [flat2]
      rw [e, show (i + 1) * 2 = i * 2 + 1 + 1 from by omega]
      simpa using this
def PRow (w : World) (v : Value) (l : List (Int × Int)) : Prop :=
  ∃ a, v = .slice a l.length l.length ∧ ∀ i, i < l.length → ∃ g, a = some ⟨g, 0, none⟩ ∧ g < w.heap.size ∧ w.cell? ⟨g, i * 2, none⟩ = some (.int .i64 (l.getD i (0, 0)).1) ∧ w.cell? ⟨g, i * 2 + 1, none⟩ = some (.int .i64 (l.getD i (0, 0)).2)
theorem PRow.q {w w' : World} {v : Value} {l : List (Int × Int)} (h : PRow w v l) (hq : Q w w') : PRow w' v l := by
  obtain ⟨a, hv, hc⟩ := h
  refine ⟨a, hv, fun i hi => ?_⟩
  obtain ⟨g, ha, hg, h1, h2⟩ := hc i hi
  refine ⟨g, ha, Nat.lt_of_lt_of_le hg hq.le, ?_, ?_⟩
  · rw [World.cell?_of_block (w := w) (hq.block hg)]; exact h1
  · rw [World.cell?_of_block (w := w) (hq.block hg)]; exact h2
theorem PRow.nil (w : World) : PRow w (.slice none 0 0) [] := ⟨none, rfl, fun i h => by simp at h⟩
theorem PRow.made (w : World) (l : List (Int × Int)) (n : Nat) (hn : l.length = n) (t : TypeId) (cs : Array Value) (hcs : cs = (flat2 l).toArray) :
    PRow (w.alloc (.cells cs t)) (.slice (some ⟨w.heap.size, 0, none⟩) n n) l := by
  subst hn hcs
  refine ⟨_, rfl, fun i hi => ⟨w.heap.size, rfl, by simp, ?_, ?_⟩⟩
  · rw [World.cell?_alloc_at _ _ _ _ rfl]; simpa using (flat2_get l i hi).1
  · rw [World.cell?_alloc_at _ _ _ _ rfl]; simpa using (flat2_get l i hi).2
def flat3 (l : List (Int × Int × Int)) : List Value := l.flatMap fun r => [.int .i64 r.1, .int .i64 r.2.1, .int .i64 r.2.2]
theorem flat3_get (l : List (Int × Int × Int)) (i : Nat) (h : i < l.length) :
    (flat3 l)[i * 3]? = some (.int .i64 (l.getD i (0, 0, 0)).1) ∧ (flat3 l)[i * 3 + 1]? = some (.int .i64 (l.getD i (0, 0, 0)).2.1) ∧ (flat3 l)[i * 3 + 2]? = some (.int .i64 (l.getD i (0, 0, 0)).2.2) := by
  induction l generalizing i with
  | nil => simp at h
  | cons r l ih =>
    cases i with
    | zero => simp [flat3]
    | succ i =>
      have := ih i (by simpa using h)
      have e : flat3 (r :: l) = .int .i64 r.1 :: .int .i64 r.2.1 :: .int .i64 r.2.2 :: flat3 l := by simp [flat3]
      rw [e, show (i + 1) * 3 = i * 3 + 1 + 1 + 1 from by omega]
      simpa using this
def TRow (w : World) (g : Nat) (l : List (Int × Int × Int)) : Prop :=
  g < w.heap.size ∧ ∀ i, i < l.length → w.cell? ⟨g, i * 3, none⟩ = some (.int .i64 (l.getD i (0, 0, 0)).1) ∧ w.cell? ⟨g, i * 3 + 1, none⟩ = some (.int .i64 (l.getD i (0, 0, 0)).2.1) ∧ w.cell? ⟨g, i * 3 + 2, none⟩ = some (.int .i64 (l.getD i (0, 0, 0)).2.2)
theorem TRow.q {w w' : World} {g : Nat} {l : List (Int × Int × Int)} (h : TRow w g l) (hq : Q w w') : TRow w' g l := by
  obtain ⟨hg, hc⟩ := h
  refine ⟨Nat.lt_of_lt_of_le hg hq.le, fun i hi => ?_⟩
  obtain ⟨h1, h2, h3⟩ := hc i hi
  exact ⟨(World.cell?_of_block (w := w) (hq.block hg)).trans h1, (World.cell?_of_block (w := w) (hq.block hg)).trans h2, (World.cell?_of_block (w := w) (hq.block hg)).trans h3⟩
theorem TRow.made (w : World) (l : List (Int × Int × Int)) (t : TypeId) (cs : Array Value) (hcs : cs = (flat3 l).toArray) :
    TRow (w.alloc (.cells cs t)) w.heap.size l := by
  subst hcs
  refine ⟨by simp, fun i hi => ⟨?_, ?_, ?_⟩⟩
  · rw [World.cell?_alloc_at _ _ _ _ rfl]; simpa using (flat3_get l i hi).1
  · rw [World.cell?_alloc_at _ _ _ _ rfl]; simpa using (flat3_get l i hi).2.1
  · rw [World.cell?_alloc_at _ _ _ _ rfl]; simpa using (flat3_get l i hi).2.2
end Go.Proofs.YtnlfeamhedihpaaGreatDoor
namespace Go.Proofs.YtnlfeamhedihpaaGreatDoor
open Go.RowKit Go.Sort Go.Maps
namespace Sy
open Sm
theorem law9 : Keyed Tryz.prog 9 := string_keyed Tryz.underlying9
theorem zeroI (w : World) : (zeroValue 3).run Tryz.prog w = .ok (.int .i64 0) w := by kernel_rfl
abbrev Mp (w : World) (b n : Nat) (D : DataW Unit) : Prop := w.ownsMap Tryz.prog 9 (plainElem Tryz.prog 3) b n D
theorem wf_small {v : Int} (h0 : 0 ≤ v) (h1 : v < 1000000) : (Lit.int .i64 v).wf = true := by
  exact WalkArith.wf_i64 (by omega)
theorem put_own (w : World) {ops : Array Oper} {rest : List Oper} {o : Oper} {a : Act} {R : Exit → Act → World → Prop}
    (hg : o.guard = none) (m x v : Operand) (hop : o.op = Op.insert 204 m x v) (b n : Nat) (D : DataW Unit)
    (hm : a.eval m = .map (some b)) (hown : Mp w b n D) (hn : n < 1000) (key : List UInt8) (val : Int) (hk : key.length < 1000) (hv0 : 0 ≤ val) (hv1 : val < 1000000) (hx : a.eval x = .string ⟨key.toArray⟩) (hv : a.eval v = .int .i64 val)
    (hK : ∀ w', Mp w' b (n + 1) (D.put (.string key) (.lit (.int .i64 val))) → w.grownBy w' (some b) → wpList Tryz.prog ops R rest (a.put o.dst undef) w') :
    wpList Tryz.prog ops R (o :: rest) a w := by
  refine wpList_plain hg fun K' hK' => ?_
  have hkey : keyOf Tryz.prog 9 (.string ⟨key.toArray⟩) = some (.string key) := by
    refine WideMaps.keyOf_string_mk Tryz.underlying9 (s := ⟨key.toArray⟩) ?_
    show key.toArray.size ≤ maxLen
    unfold maxLen; simp; omega
  obtain ⟨w', hrun, r1, r2⟩ := World.ownsMap.update hown law9 Tryz.underlying204 (by unfold maxLen; omega) hkey (plainElem_int Tryz.underlying3 (wf_small hv0 hv1))
  unfold Oper.wp
  simp [execOp, hop, hm, hx, hv, hrun, Result.andThen]
  exact hK' _ _ (hK w' r1 r2)
theorem tab_put : (((((((((((((((((((((DataW.map []).put (.string [97, 114, 97, 98]) (.lit (.int .i64 1632))).put (.string [97, 114, 97, 98, 101, 120, 116]) (.lit (.int .i64 1776))).put (.string [98, 101, 110, 103]) (.lit (.int .i64 2534))).put (.string [100, 101, 118, 97]) (.lit (.int .i64 2406))).put (.string [102, 117, 108, 108, 119, 105, 100, 101]) (.lit (.int .i64 65296))).put (.string [103, 117, 106, 114]) (.lit (.int .i64 2790))).put (.string [103, 117, 114, 117]) (.lit (.int .i64 2662))).put (.string [107, 104, 109, 114]) (.lit (.int .i64 6112))).put (.string [107, 110, 100, 97]) (.lit (.int .i64 3302))).put (.string [108, 97, 111, 111]) (.lit (.int .i64 3792))).put (.string [108, 97, 116, 110]) (.lit (.int .i64 48))).put (.string [109, 97, 116, 104, 115, 97, 110, 98]) (.lit (.int .i64 120812))).put (.string [109, 108, 121, 109]) (.lit (.int .i64 3430))).put (.string [109, 111, 110, 103]) (.lit (.int .i64 6160))).put (.string [109, 121, 109, 114]) (.lit (.int .i64 4160))).put (.string [111, 114, 121, 97]) (.lit (.int .i64 2918))).put (.string [116, 97, 109, 108, 100, 101, 99]) (.lit (.int .i64 3046))).put (.string [116, 101, 108, 117]) (.lit (.int .i64 3174))).put (.string [116, 104, 97, 105]) (.lit (.int .i64 3664))).put (.string [116, 105, 98, 116]) (.lit (.int .i64 3872)) : DataW Unit) = D0 := by kernel_rfl
set_option maxHeartbeats 4000000 in
set_option maxRecDepth 100000 in
theorem noughts_any (w : World) :
    Calls Tryz.prog 155 #[] w fun e w' => e = .returned (.map (some w.heap.size)) ∧ Mp w' w.heap.size 20 D0 ∧ Q w w' := by
  have hmm := @run_makeMap Tryz.prog
  have h0 : Mp (w.alloc (.map #[] 0)) w.heap.size 0 (.map []) := World.ownsMap_made _ _ _ _
  have q0 : Q w (w.alloc (.map #[] 0)) := (Q.refl _).alloc _
  go_enter Tryz.func155, Tryz.ntmps155
  go_wp2_with (refine put_own _ rfl _ _ _ rfl _ 0 _ (by rfl) h0 (by omega) [97, 114, 97, 98] 1632 (by decide) (by omega) (by omega) (by rfl) (by rfl) ?_)
  intro w1 h1 g1
  have q1 := q0.grown g1 (fun k h => by cases h; exact Nat.le_refl _)
  go_wp2_with (refine put_own _ rfl _ _ _ rfl _ 1 _ (by rfl) h1 (by omega) [97, 114, 97, 98, 101, 120, 116] 1776 (by decide) (by omega) (by omega) (by rfl) (by rfl) ?_)
  intro w2 h2 g2
  have q2 := q1.grown g2 (fun k h => by cases h; exact Nat.le_refl _)
  go_wp2_with (refine put_own _ rfl _ _ _ rfl _ 2 _ (by rfl) h2 (by omega) [98, 101, 110, 103] 2534 (by decide) (by omega) (by omega) (by rfl) (by rfl) ?_)
  intro w3 h3 g3
  have q3 := q2.grown g3 (fun k h => by cases h; exact Nat.le_refl _)
  go_wp2_with (refine put_own _ rfl _ _ _ rfl _ 3 _ (by rfl) h3 (by omega) [100, 101, 118, 97] 2406 (by decide) (by omega) (by omega) (by rfl) (by rfl) ?_)
  intro w4 h4 g4
  have q4 := q3.grown g4 (fun k h => by cases h; exact Nat.le_refl _)
  go_wp2_with (refine put_own _ rfl _ _ _ rfl _ 4 _ (by rfl) h4 (by omega) [102, 117, 108, 108, 119, 105, 100, 101] 65296 (by decide) (by omega) (by omega) (by rfl) (by rfl) ?_)
  intro w5 h5 g5
  have q5 := q4.grown g5 (fun k h => by cases h; exact Nat.le_refl _)
  go_wp2_with (refine put_own _ rfl _ _ _ rfl _ 5 _ (by rfl) h5 (by omega) [103, 117, 106, 114] 2790 (by decide) (by omega) (by omega) (by rfl) (by rfl) ?_)
  intro w6 h6 g6
  have q6 := q5.grown g6 (fun k h => by cases h; exact Nat.le_refl _)
  go_wp2_with (refine put_own _ rfl _ _ _ rfl _ 6 _ (by rfl) h6 (by omega) [103, 117, 114, 117] 2662 (by decide) (by omega) (by omega) (by rfl) (by rfl) ?_)
  intro w7 h7 g7
  have q7 := q6.grown g7 (fun k h => by cases h; exact Nat.le_refl _)
  go_wp2_with (refine put_own _ rfl _ _ _ rfl _ 7 _ (by rfl) h7 (by omega) [107, 104, 109, 114] 6112 (by decide) (by omega) (by omega) (by rfl) (by rfl) ?_)
  intro w8 h8 g8
  have q8 := q7.grown g8 (fun k h => by cases h; exact Nat.le_refl _)
  go_wp2_with (refine put_own _ rfl _ _ _ rfl _ 8 _ (by rfl) h8 (by omega) [107, 110, 100, 97] 3302 (by decide) (by omega) (by omega) (by rfl) (by rfl) ?_)
  intro w9 h9 g9
  have q9 := q8.grown g9 (fun k h => by cases h; exact Nat.le_refl _)
  go_wp2_with (refine put_own _ rfl _ _ _ rfl _ 9 _ (by rfl) h9 (by omega) [108, 97, 111, 111] 3792 (by decide) (by omega) (by omega) (by rfl) (by rfl) ?_)
  intro w10 h10 g10
  have q10 := q9.grown g10 (fun k h => by cases h; exact Nat.le_refl _)
  go_wp2_with (refine put_own _ rfl _ _ _ rfl _ 10 _ (by rfl) h10 (by omega) [108, 97, 116, 110] 48 (by decide) (by omega) (by omega) (by rfl) (by rfl) ?_)
  intro w11 h11 g11
  have q11 := q10.grown g11 (fun k h => by cases h; exact Nat.le_refl _)
  go_wp2_with (refine put_own _ rfl _ _ _ rfl _ 11 _ (by rfl) h11 (by omega) [109, 97, 116, 104, 115, 97, 110, 98] 120812 (by decide) (by omega) (by omega) (by rfl) (by rfl) ?_)
  intro w12 h12 g12
  have q12 := q11.grown g12 (fun k h => by cases h; exact Nat.le_refl _)
  go_wp2_with (refine put_own _ rfl _ _ _ rfl _ 12 _ (by rfl) h12 (by omega) [109, 108, 121, 109] 3430 (by decide) (by omega) (by omega) (by rfl) (by rfl) ?_)
  intro w13 h13 g13
  have q13 := q12.grown g13 (fun k h => by cases h; exact Nat.le_refl _)
  go_wp2_with (refine put_own _ rfl _ _ _ rfl _ 13 _ (by rfl) h13 (by omega) [109, 111, 110, 103] 6160 (by decide) (by omega) (by omega) (by rfl) (by rfl) ?_)
  intro w14 h14 g14
  have q14 := q13.grown g14 (fun k h => by cases h; exact Nat.le_refl _)
  go_wp2_with (refine put_own _ rfl _ _ _ rfl _ 14 _ (by rfl) h14 (by omega) [109, 121, 109, 114] 4160 (by decide) (by omega) (by omega) (by rfl) (by rfl) ?_)
  intro w15 h15 g15
  have q15 := q14.grown g15 (fun k h => by cases h; exact Nat.le_refl _)
  go_wp2_with (refine put_own _ rfl _ _ _ rfl _ 15 _ (by rfl) h15 (by omega) [111, 114, 121, 97] 2918 (by decide) (by omega) (by omega) (by rfl) (by rfl) ?_)
  intro w16 h16 g16
  have q16 := q15.grown g16 (fun k h => by cases h; exact Nat.le_refl _)
  go_wp2_with (refine put_own _ rfl _ _ _ rfl _ 16 _ (by rfl) h16 (by omega) [116, 97, 109, 108, 100, 101, 99] 3046 (by decide) (by omega) (by omega) (by rfl) (by rfl) ?_)
  intro w17 h17 g17
  have q17 := q16.grown g17 (fun k h => by cases h; exact Nat.le_refl _)
  go_wp2_with (refine put_own _ rfl _ _ _ rfl _ 17 _ (by rfl) h17 (by omega) [116, 101, 108, 117] 3174 (by decide) (by omega) (by omega) (by rfl) (by rfl) ?_)
  intro w18 h18 g18
  have q18 := q17.grown g18 (fun k h => by cases h; exact Nat.le_refl _)
  go_wp2_with (refine put_own _ rfl _ _ _ rfl _ 18 _ (by rfl) h18 (by omega) [116, 104, 97, 105] 3664 (by decide) (by omega) (by omega) (by rfl) (by rfl) ?_)
  intro w19 h19 g19
  have q19 := q18.grown g19 (fun k h => by cases h; exact Nat.le_refl _)
  go_wp2_with (refine put_own _ rfl _ _ _ rfl _ 19 _ (by rfl) h19 (by omega) [116, 105, 98, 116] 3872 (by decide) (by omega) (by omega) (by rfl) (by rfl) ?_)
  intro w20 h20 g20
  have q20 := q19.grown g20 (fun k h => by cases h; exact Nat.le_refl _)
  go_wp2_with fail
  go_ret
  exact ⟨rfl, by rw [← tab_put]; exact h20, q20⟩
theorem keyS (x : ByteArray) (hx : x.size ≤ maxLen) : keyOf Tryz.prog 9 (.string x) = some (.string x.data.toList) := WideMaps.keyOf_string_mk Tryz.underlying9 hx
set_option maxRecDepth 100000 in
set_option maxHeartbeats 1000000 in
theorem zero_some (x : ByteArray) (w : World) (hx : x.size ≤ maxLen) (h : nz x.data.toList ≠ -1) :
    Calls Tryz.prog 121 #[.string x] w fun e w' => e = .returned (.tuple #[.int .i64 (nz x.data.toList), .int .i64 0]) ∧ Q w w' := by
  have hh : Maps.has D0 (.string x.data.toList) = true := by rw [D0_has]; exact decide_eq_true h
  have ha := D0_at x.data.toList (.lit (.int .i64 0)) h
  have hk := keyS x hx
  generalize nz x.data.toList = z at *
  have HH := Lib.hid hh
  have HA := Lib.hid ha
  clear hh ha h
  go_enter Tryz.func121, Tryz.ntmps121
  go_wp2_with fail
  refine (noughts_any _).mono ?_
  rintro e w1 ⟨rfl, hm, hq⟩
  go_wp2_with (at_lookup; refine wpList_lookup_own_ok_int _ rfl _ _ 204 rfl 9 3 .i64 law9 Tryz.underlying204 Tryz.underlying3 (zeroI _) _ 20 D0 (by rfl) hm _ _ (by rfl) hk ?_)
  intro c hat hwc
  obtain rfl : z = c := by
    have h1 := HA.out
    rw [hat] at h1
    injection h1 with h1; injection h1 with _ h1
    exact h1.symm
  rw [HH.out]
  go_wp2_with fail
  go_ret2
  exact ⟨rfl, hq⟩
set_option maxRecDepth 100000 in
set_option maxHeartbeats 1000000 in
theorem zero_none (x : ByteArray) (w : World) (hx : x.size ≤ maxLen) (h : nz x.data.toList = -1) :
    Calls Tryz.prog 121 #[.string x] w fun e w' => e = .returned (.tuple #[.int .i64 0, .int .i64 7]) ∧ Q w w' := by
  have hh : Maps.has D0 (.string x.data.toList) = false := by rw [D0_has]; exact decide_eq_false (fun k => k h)
  have hk := keyS x hx
  have HH := Lib.hid hh
  clear hh h
  go_enter Tryz.func121, Tryz.ntmps121
  go_wp2_with fail
  refine (noughts_any _).mono ?_
  rintro e w1 ⟨rfl, hm, hq⟩
  go_wp2_with (at_lookup; refine wpList_lookup_own_ok_int _ rfl _ _ 204 rfl 9 3 .i64 law9 Tryz.underlying204 Tryz.underlying3 (zeroI _) _ 20 D0 (by rfl) hm _ _ (by rfl) hk ?_)
  intro c hat hwc
  rw [HH.out]
  go_wp2_with fail
  go_ret2
  exact ⟨rfl, hq⟩
end Sy
end Go.Proofs.YtnlfeamhedihpaaGreatDoor
namespace Go.Proofs.YtnlfeamhedihpaaGreatDoor
open Go.RowKit
namespace Dm
def gdL (xs : List Int) (m : Nat) : List Int := (xs.take m).map fun x => Um.around x 10
theorem gdL_len (xs : List Int) (m : Nat) : (gdL xs m).length = min m xs.length := by unfold gdL; rw [List.length_map, List.length_take]
theorem gdL_ok (xs : List Int) (m : Nat) : okD (gdL xs m) := by
  intro d hd
  obtain ⟨x, hx, rfl⟩ := List.mem_map.1 hd
  have := Um.around_bd x 10 (by omega)
  omega
theorem gdL_snoc (xs : List Int) (k : Nat) (hk : k < xs.length) : gdL xs (k + 1) = gdL xs k ++ [Um.around (xs.getD k 0) 10] := by
  unfold gdL
  rw [List.take_succ_eq_append_getElem hk, List.map_append, List.getD_eq_getElem?_getD, List.getElem?_eq_getElem hk]; rfl
theorem gdL_min (xs : List Int) (m : Nat) : gdL xs (min m xs.length) = gdL xs m := by
  unfold gdL
  rcases Nat.le_total m xs.length with h | h
  · rw [Nat.min_eq_left h]
  · rw [Nat.min_eq_right h, List.take_length, List.take_of_length_le h]
end Dm
namespace Dr
set_option maxHeartbeats 1600000 in
theorem good_any (v : Value) (xs : List Int) (m : Nat) (w : World) (hv : Lst w v xs) (hl : xs.length ≤ 9223372036854775807) (hm : m < 1000000) (hb : ∀ n ∈ xs, -9223372036854775808 ≤ n ∧ n ≤ 9223372036854775807) :
    Calls Tryz.prog 26 #[v, .int .i64 m] w fun e w' => ∃ u, e = .returned u ∧ Own w' w.heap.size u (Dm.gdL xs m) ∧ Q w w' := by
  obtain ⟨n, hn⟩ : ∃ n, n = xs.length := ⟨_, rfl⟩
  obtain ⟨a, c, rfl, hnc, hcm⟩ := hv.form0 hn.symm
  have HV := Lib.hid (fun k (hk : k < n) => hv.cellOf (n := n) (k := k) hn.symm hk)
  have HB := Lib.hid (fun k (hk : k < n) => (by rw [List.getD_eq_getElem?_getD, List.getElem?_eq_getElem (by omega)]; exact hb _ (List.getElem_mem _) : -9223372036854775808 ≤ xs.getD k 0 ∧ xs.getD k 0 ≤ 9223372036854775807))
  have HS := Lib.hid (fun k (hk : k < n) => Dm.gdL_snoc xs k (by omega))
  have HE := Lib.hid (fun k (h1 : k = min m n) => (by rw [h1, hn]; exact Dm.gdL_min xs m : Dm.gdL xs k = Dm.gdL xs m))
  have HL := Lib.hid (fun k => (by rw [Dm.gdL_len, ← hn] : (Dm.gdL xs k).length = min k n))
  have HA := Lib.hid (fun x w h0 h1 => Ur.around_any x 10 w h0 h1 (by omega) (by omega))
  rw [← hn] at hl
  unfold maxLen at hcm
  clear hv hn hb
  go_enter Tryz.func26, Tryz.ntmps26
  go_wp2_with fail
  go_loopw [5, 6] (fun u t wr => ∃ k : Nat, t = .int .i64 k ∧ k ≤ n ∧ k ≤ m ∧ Own wr w.heap.size u (Dm.gdL xs k) ∧ Q w wr) (fun _ t _ => n - (intOf t).toNat)
  case atStart => exact ⟨0, rfl, by omega, by omega, Own.nil _ _, Q.refl _⟩
  case round =>
    obtain ⟨k, rfl, hk, hkm, ho, hq⟩ := hrel
    by_cases hlt : k < n
    · by_cases hlm : k < m
      · obtain ⟨g, off, cap, hvv, hg, _, _, c0⟩ := HV.out k hlt
        cases hvv
        have c1 := (World.cell?_of_block (w := w) (hq.block hg) (a := ⟨g, off + k, none⟩)).trans c0
        have hbk := HB.out k hlt
        have hs := HS.out k hlt
        generalize xs.getD k 0 = x at *
        have HS2 := Lib.hid hs
        have hwl : (Dm.gdL xs k).length < 1099511627776 := by rw [HL.out]; omega
        have hB := hq.le
        have HAR := Lib.hid (HA.out x wr hbk.1 hbk.2)
        have HQ := Lib.hid hq
        clear hs c0 hbk
        generalize Um.around x 10 = y at *
        go_wp2_with fail
        refine HAR.out.mono ?_
        rintro e w1 ⟨rfl, rfl⟩
        go_wp2_with (at_builtin; refine push_int ho rfl _ _ rfl _ (by rfl) (by rfl) hwl hB ?_)
        intro v2 w2 ho2 hg2 hat2
        rw [← HS2.out] at ho2
        have HO2 := Lib.hid ho2
        have HQ2 := Lib.hid (HQ.out.grown hg2 (fun g h => (ho.lt g h).1))
        clear ho ho2 hg2 hat2
        go_wp2_with fail
        exact ⟨⟨k + 1, by go_num, by omega, by omega, HO2.out, HQ2.out⟩, by simp [intOf]; omega⟩
      · have he := HE.out k (by omega)
        rw [he] at ho
        have HO := Lib.hid ho
        have HQ := Lib.hid hq
        clear he ho hq
        go_wp2_with fail
        go_ret
        exact ⟨_, rfl, HO.out, HQ.out⟩
    · have he := HE.out k (by omega)
      rw [he] at ho
      have HO := Lib.hid ho
      have HQ := Lib.hid hq
      clear he ho hq
      go_wp2_with fail
      go_ret
      exact ⟨_, rfl, HO.out, HQ.out⟩
end Dr
end Go.Proofs.YtnlfeamhedihpaaGreatDoor
