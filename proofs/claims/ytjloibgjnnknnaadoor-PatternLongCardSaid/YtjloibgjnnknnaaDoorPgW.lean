/- The law PatternLong: a number of more than 64 signs is refused. Our own work. -/
import Derived.Deep.Cut
import Derived.Deep.DeepCutAuto
import Derived.Test.YtjloibgjnnknnaaDoorRows
import Derived.Test.YtjloibgjnnknnaaDoorInts
import Derived.Test.YtjloibgjnnknnaaDoorUtfM
import Derived.Test.YtjloibgjnnknnaaDoorUtfG
import Derived.Test.YtjloibgjnnknnaaDoorUtfR
import Derived.Test.YtjloibgjnnknnaaDoorUtfW
import Derived.Test.YtjloibgjnnknnaaDoorBlk
import Derived.Test.YtjloibgjnnknnaaDoorPcs
import Derived.Test.YtjloibgjnnknnaaDoorPatM
import Derived.Test.YtjloibgjnnknnaaDoorPatN
import Derived.Test.YtjloibgjnnknnaaDoorPgA
import Derived.Test.YtjloibgjnnknnaaDoorPgB
import Derived.Test.YtjloibgjnnknnaaDoorPgD
import Derived.Test.YtjloibgjnnknnaaDoorPgF
import Derived.Test.YtjloibgjnnknnaaDoorPgJ
import Derived.Test.YtjloibgjnnknnaaDoorPgL
import Derived.Test.YtjloibgjnnknnaaDoorPgM
import Derived.Test.YtjloibgjnnknnaaDoorPgO
import Derived.Test.YtjloibgjnnknnaaDoorPgS
import Derived.Test.YtjloibgjnnknnaaDoorPgL2
import Derived.Deep.QuietTactic
import Derived.BigQuiet
import Derived.Deep.RegionHeld3
set_option linter.unusedVariables false
set_option linter.unusedSimpArgs false
namespace Go.Proofs.YtjloibgjnnknnaaDoor
open Go.RowKit
namespace Pg
open Pt Um

/-- A number's signs: k and 60 zeros, ahead of the point or behind it. -/
def lgN (k i : Nat) : List Int := if i = 0 then List.replicate (60 + k) 48 else [48, 46] ++ List.replicate (60 + k) 48
def lgT (k i : Nat) : List Int := if i < 2 then lgN k i else [35, 59] ++ lgN k (i - 2)
def lnB (b : Nb) : Bool := decide (64 < b.xi) || decide (64 < b.xf)
theorem lnB_iff (b : Nb) : b.long ↔ lnB b = true := by unfold Nb.long lnB; simp
set_option maxRecDepth 100000 in
theorem lgN_nb : ∀ k, k < 10 → ∀ i, i < 2 → (prN ((lgN k i).flatMap encL)).any (fun b => lnB b == decide (4 < k)) = true := by decide +kernel
set_option maxRecDepth 100000 in
theorem lgN_ok : ∀ k, k < 10 → ∀ i, i < 2 → (lgN k i).all (fun c => nmB c && vld c) = true ∧ 1 ≤ (lgN k i).length ∧ (lgN k i).length ≤ 100 := by decide +kernel
theorem one35 : prN ([35].flatMap encL) = some ⟨0, 0, 0, 1, 0, 0⟩ := by decide +kernel
theorem hv_signs (ns : List Int) : Hv [] (ns.map fun c => (4, c)) [] := ⟨fun x hx => absurd hx List.not_mem_nil, fun x hx => absurd hx List.not_mem_nil, fun x hx => by obtain ⟨d, _, rfl⟩ := List.mem_map.1 hx; rfl⟩
theorem map_signs (ns : List Int) : (ns.map fun c => ((4 : Int), c)).map (·.2) = ns := by
  rw [List.map_map]
  conv => rhs; rw [← List.map_id ns]
  rfl

/-- Parse of halves: the error tells whether one's number is too long. -/
theorem parseLL {cs : List Int} (hv : Vl cs) (hz : cs.length ≤ 10000) {l : List (Int × Int)} (ht : tokQ false false cs = some l) (LL : List (List (Int × Int) × Nb)) (hs : splitD l = LL.map (·.1)) (hH : ∀ x ∈ LL, HalfOk x.1 x.2) (h1 : 1 ≤ LL.length) (h2 : LL.length ≤ 2) (w : World) :
    Calls Tryd.prog 15 #[.string ⟨(joinL cs).toArray⟩] w fun e w' => ∃ v X, e = .returned (.tuple #[v, .int .i64 (if LL.any (fun x => lnB x.2) = true then 3 else 0)]) ∧ PV w' w.heap.size v X ∧ Q w w' := by
  have hr := fun u => read_any ⟨(joinL cs).toArray⟩ u (by have := joinL_length cs; simp only [ByteArray.size, List.size_toArray]; omega) (okL_join cs hv) l (by rw [allL_join cs hv]; exact ht) LL hs hH h1 h2
  by_cases hl : LL.any (fun x => lnB x.2) = true
  · rw [if_pos hl]
    refine (parse_err _ w 3 fun u _ => (hr u).mono ?_).mono ?_
    · rintro e w' ⟨hq, ⟨_, rfl⟩ | ⟨hno, _⟩⟩
      · exact ⟨rfl, hq⟩
      · obtain ⟨x, hx, hxl⟩ := List.any_eq_true.1 hl
        exact absurd ((lnB_iff _).2 hxl) (hno x hx)
    · rintro e w' ⟨v, rfl, hp, hq⟩
      exact ⟨v, _, rfl, hp, hq⟩
  · rw [if_neg hl]
    refine (parse_ok _ w (patOf LL) fun u _ => (hr u).mono ?_).mono ?_
    · rintro e w' ⟨hq, ⟨⟨x, hx, hxl⟩, _⟩ | ⟨_, v, hv, hpv⟩⟩
      · exact absurd (List.any_eq_true.2 ⟨x, hx, (lnB_iff _).1 hxl⟩) hl
      · exact ⟨hq, v, hv, hpv⟩
    · rintro e w' ⟨v, rfl, hp, hq⟩
      exact ⟨v, _, rfl, hp, hq⟩
/-- Parse of a text whose quotation does not end. -/
theorem parse_open {cs : List Int} (hv : Vl cs) (hz : cs.length ≤ 10000) (ht : tokQ false false cs = none) (w : World) :
    Calls Tryd.prog 15 #[.string ⟨(joinL cs).toArray⟩] w fun e w' => ∃ v X, e = .returned (.tuple #[v, .int .i64 2]) ∧ PV w' w.heap.size v X ∧ Q w w' := by
  refine (parse_err _ w 2 fun u _ => (read_form ⟨(joinL cs).toArray⟩ u (by have := joinL_length cs; simp only [ByteArray.size, List.size_toArray]; omega) (okL_join cs hv) (by rw [allL_join cs hv]; exact ht)).mono ?_).mono ?_
  · rintro e w' ⟨rfl, hq⟩
    exact ⟨rfl, hq⟩
  · rintro e w' ⟨v, rfl, hp, hq⟩
    exact ⟨v, _, rfl, hp, hq⟩
theorem open_tok (cs : List Int) (h : ∀ c ∈ cs, c ≠ 39) : tokQ false false (cs ++ [39]) = none := by
  induction cs with
  | nil => rfl
  | cons c r ih =>
    rw [List.cons_append, tokQ_cons, if_neg (h c List.mem_cons_self), if_neg (by simp), ih fun d hd => h d (List.mem_cons_of_mem _ hd)]; rfl

theorem lgT_vl {k i : Nat} (hk : k < 10) (hi : i < 4) : Vl (lgT k i) ∧ (∀ c ∈ lgT k i, c ≠ 39) ∧ (lgT k i).length ≤ 200 := by
  have h0 : ∀ j, j < 2 → Vl (lgN k j) ∧ (∀ c ∈ lgN k j, c ≠ 39) ∧ (lgN k j).length ≤ 100 := fun j hj => by
    obtain ⟨a, _, b⟩ := lgN_ok k hk j hj
    rw [List.all_eq_true] at a
    refine ⟨fun c hc => ?_, fun c hc => ?_, b⟩
    · have := a c hc; simp only [Bool.and_eq_true] at this; exact this.2
    · have := a c hc; simp only [Bool.and_eq_true] at this; exact (nmB_kind this.1).1
  unfold lgT
  split
  · obtain ⟨a, b, c⟩ := h0 i (by omega)
    exact ⟨a, b, by omega⟩
  · obtain ⟨a, b, c⟩ := h0 (i - 2) (by omega)
    refine ⟨fun x hx => ?_, fun x hx => ?_, by rw [List.length_append]; simp; omega⟩
    · rcases List.mem_append.1 hx with hx | hx
      · simp only [List.mem_cons, List.not_mem_nil, or_false] at hx; rcases hx with rfl | rfl <;> decide +kernel
      · exact a x hx
    · rcases List.mem_append.1 hx with hx | hx
      · simp at hx; omega
      · exact b x hx
theorem lgN_half {k i : Nat} (hk : k < 10) (hi : i < 2) : ∃ nb, HalfOk ((lgN k i).map fun c => (4, c)) nb ∧ lnB nb = decide (4 < k) ∧ splitD ((lgN k i).map fun c => (4, c)) = [(lgN k i).map fun c => (4, c)] ∧ outS false false (lgN k i) = some ((lgN k i).map fun c => (4, c), false, false) := by
  have h := lgN_nb k hk i hi
  obtain ⟨a, h1, h2⟩ := lgN_ok k hk i hi
  rw [List.all_eq_true] at a
  cases hn : prN ((lgN k i).flatMap encL) with
  | none => rw [hn] at h; cases h
  | some nb =>
    rw [hn] at h
    have hl : lnB nb = decide (4 < k) := by simpa using h
    have hx := hok_of (P := []) (S := []) (N := (lgN k i).map fun c => (4, c)) (by
      intro x hx
      simp only [List.nil_append, List.append_nil] at hx
      obtain ⟨c, hc, rfl⟩ := List.mem_map.1 hx
      have := a c hc; simp only [Bool.and_eq_true] at this; exact this.2) (hv_signs _) (by rw [List.length_map]; exact h1) (by rw [List.length_map]; omega) nb (by rw [map_signs]; exact hn)
    have hs := split_one (hv_signs (lgN k i))
    simp only [List.nil_append, List.append_nil] at hx hs
    exact ⟨nb, hx.1, hl, hs, sign_out _ fun c hc => by have := a c hc; simp only [Bool.and_eq_true] at this; exact this.1⟩
theorem long_parse {k i : Nat} (hk : k < 10) (hi : i < 4) (w : World) :
    Calls Tryd.prog 15 #[.string ⟨(joinL (lgT k i)).toArray⟩] w fun e w' => ∃ v X, e = .returned (.tuple #[v, .int .i64 (if 4 < k then 3 else 0)]) ∧ PV w' w.heap.size v X ∧ Q w w' := by
  obtain ⟨hvl, _, hle⟩ := lgT_vl hk hi
  by_cases h2 : i < 2
  · obtain ⟨nb, hh, hl, hs, ho⟩ := lgN_half hk h2
    have e : lgT k i = lgN k i := by unfold lgT; rw [if_pos h2]
    have := parseLL hvl (by omega) (l := (lgN k i).map fun c => (4, c)) (by rw [e]; exact tok_q _ _ _ _ (by rw [tok_out, ho]; simp)) [((lgN k i).map fun c => (4, c), nb)] (by rw [hs]; rfl) (fun x hx => by rw [List.mem_singleton.1 hx]; exact hh) (by simp) (by simp) w
    simpa [hl] using this
  · obtain ⟨nb, hh, hl, hs, ho⟩ := lgN_half hk (show i - 2 < 2 by omega)
    have e : lgT k i = 35 :: 59 :: lgN k (i - 2) := by unfold lgT; rw [if_neg h2]; rfl
    have h35 := hok_of (P := []) (S := []) (N := [(4, 35)]) (by decide +kernel) (hv_signs [35]) (by decide) (by decide) ⟨0, 0, 0, 1, 0, 0⟩ one35
    have hsp := split_two (P := []) (S := []) (P' := []) (S' := []) (hv_signs [35]) (hv_signs (lgN k (i - 2)))
    simp only [List.nil_append, List.append_nil, List.map_cons, List.map_nil] at h35 hsp
    have := parseLL hvl (by omega) (l := [(4, 35)] ++ (5, 59) :: ((lgN k (i - 2)).map fun c => (4, c))) (by rw [e]; exact tok_q _ _ _ _ (by rw [tok_out, outS_cons, if_neg (by decide), if_neg (by simp), if_neg (by decide), outS_cons, if_neg (by decide), if_neg (by simp), if_neg (by decide), ho]; simp [kindC])) [([(4, 35)], ⟨0, 0, 0, 1, 0, 0⟩), ((lgN k (i - 2)).map fun c => (4, c), nb)] (by rw [hsp]; rfl) (fun x hx => by
      rcases List.mem_cons.1 hx with rfl | hx
      · exact h35.1
      · rw [List.mem_singleton.1 hx]; exact hh) (by simp) (by simp) w
    simp only [List.any_cons, List.any_nil, hl, Bool.or_false, show lnB ⟨0, 0, 0, 1, 0, 0⟩ = false by decide, Bool.false_or, decide_eq_true_eq] at this
    exact this
theorem long_open {k i : Nat} (hk : k < 10) (hi : i < 4) (w : World) :
    Calls Tryd.prog 15 #[.string ⟨(joinL (lgT k i ++ [39])).toArray⟩] w fun e w' => ∃ v X, e = .returned (.tuple #[v, .int .i64 2]) ∧ PV w' w.heap.size v X ∧ Q w w' := by
  obtain ⟨hvl, hn, hle⟩ := lgT_vl hk hi
  refine parse_open ?_ (by rw [List.length_append, List.length_singleton]; omega) (open_tok _ hn) w
  intro c hc
  rcases List.mem_append.1 hc with hc | hc
  · exact hvl c hc
  · rw [List.mem_singleton.1 hc]; exact (vld_iff _).2 (by omega)

theorem jl_rep (n : Nat) : joinL (List.replicate n 48) = List.replicate n 48 := by
  induction n with
  | zero => rfl
  | succ n ih => rw [List.replicate_succ, joinL_cons, ih, show one 48 = [48] by decide +kernel]; rfl
theorem lg_bytes (k : Nat) : (⟨(joinL (lgT k 0)).toArray⟩ : ByteArray) = ⟨(List.replicate (60 + k) 48).toArray⟩ ∧ (⟨(joinL (lgT k 1)).toArray⟩ : ByteArray) = ⟨#[48, 46]⟩ ++ ⟨(List.replicate (60 + k) 48).toArray⟩ ∧
    (⟨(joinL (lgT k 2)).toArray⟩ : ByteArray) = ⟨#[35, 59]⟩ ++ ⟨(List.replicate (60 + k) 48).toArray⟩ ∧ (⟨(joinL (lgT k 3)).toArray⟩ : ByteArray) = ⟨#[35, 59, 48, 46]⟩ ++ ⟨(List.replicate (60 + k) 48).toArray⟩ := by
  refine ⟨?_, ?_, ?_, ?_⟩
  · show (⟨(joinL (List.replicate (60 + k) 48)).toArray⟩ : ByteArray) = _
    rw [jl_rep]
  · show (⟨(joinL ([48, 46] ++ List.replicate (60 + k) 48)).toArray⟩ : ByteArray) = _
    rw [joinL_app, jl_rep, show joinL [48, 46] = [48, 46] by decide +kernel]; apply ba_ext; simp [ByteArray.toList_data_append]
  · show (⟨(joinL ([35, 59] ++ List.replicate (60 + k) 48)).toArray⟩ : ByteArray) = _
    rw [joinL_app, jl_rep, show joinL [35, 59] = [35, 59] by decide +kernel]; apply ba_ext; simp [ByteArray.toList_data_append]
  · show (⟨(joinL ([35, 59] ++ ([48, 46] ++ List.replicate (60 + k) 48))).toArray⟩ : ByteArray) = _
    rw [joinL_app, joinL_app, jl_rep, show joinL [35, 59] = [35, 59] by decide +kernel, show joinL [48, 46] = [48, 46] by decide +kernel]; apply ba_ext; simp [ByteArray.toList_data_append]
theorem lg_open (k i : Nat) : (⟨(joinL (lgT k i ++ [39])).toArray⟩ : ByteArray) = ⟨(joinL (lgT k i)).toArray⟩ ++ ⟨#[39]⟩ := by
  rw [joinL_app, show joinL [39] = [39] by decide +kernel]; apply ba_ext; simp [ByteArray.toList_data_append]
theorem four_cell (w : World) (a b c d : ByteArray) : ∀ j, j < 4 → (w.alloc (.cells #[.string a, .string b, .string c, .string d] 9)).cell? ⟨w.heap.size, j, none⟩ = some (.string ([a, b, c, d].getD j ByteArray.empty)) := by
  have hb : (w.alloc (.cells #[.string a, .string b, .string c, .string d] 9)).heap[w.heap.size]? = some (.cells #[.string a, .string b, .string c, .string d] 9) := heap_alloc_new _ _
  intro j hj
  simp only [World.cell?, hb]
  match j, hj with
  | 0, _ => rfl
  | 1, _ => rfl
  | 2, _ => rfl
  | 3, _ => rfl
theorem four_get (k : Nat) : ∀ j, j < 4 → [(⟨(joinL (lgT k 0)).toArray⟩ : ByteArray), ⟨(joinL (lgT k 1)).toArray⟩, ⟨(joinL (lgT k 2)).toArray⟩, ⟨(joinL (lgT k 3)).toArray⟩].getD j ByteArray.empty = ⟨(joinL (lgT k j)).toArray⟩ := by
  intro j hj
  match j, hj with
  | 0, _ => rfl
  | 1, _ => rfl
  | 2, _ => rfl
  | 3, _ => rfl

set_option maxHeartbeats 4000000 in
set_option maxRecDepth 100000 in
theorem law_long (n : Int) (w : World) (hn : -9223372036854775808 ≤ n ∧ n ≤ 9223372036854775807) : Calls Tryd.prog 5 #[.int .i64 n] w fun e w' => e = .returned (.bool true) ∧ Q w w' := by
  have HAR := Lib.hid (fun u => Ur.around_any n 10 u hn.1 hn.2 (by decide) (by decide))
  obtain ⟨z1, z2⟩ := around_bd n 10 (by decide)
  obtain ⟨k, hk⟩ : ∃ k : Nat, around n 10 = (k : Int) := ⟨(around n 10).toNat, by omega⟩
  rw [hk] at HAR z1 z2
  have hk10 : k < 10 := by omega
  clear hk z1 z2 hn
  go_enter Tryd.func5, Tryd.ntmps5
  go_wp2_with fail
  refine (HAR.out _).mono ?_
  rintro e w1 ⟨rfl, rfl⟩
  go_wp2_with fail
  go_loopw [4, 5] (fun s i wr => ∃ j : Nat, i = .int .i64 j ∧ j ≤ 60 + k ∧ s = .string ⟨(List.replicate j 48).toArray⟩ ∧ w = wr) (fun _ i _ => 60 + k - (intOf i).toNat)
  case atStart => exact ⟨0, rfl, by omega, rfl, rfl⟩
  case round =>
    obtain ⟨j, rfl, hj, rfl, rfl⟩ := hrel
    by_cases hlt : j < 60 + k
    · have hlti : (j : Int) < 60 + (k : Int) := by omega
      have hs : (⟨(List.replicate j 48).toArray⟩ : ByteArray).size ≤ 70 := by rw [← size_list]; simp; omega
      have HS := Lib.hid (show (⟨(List.replicate (j + 1) 48).toArray⟩ : ByteArray) = ⟨(List.replicate j 48).toArray⟩ ++ ⟨#[48]⟩ by
        apply ba_ext
        rw [List.replicate_succ']
        simp [ByteArray.toList_data_append])
      generalize (⟨(List.replicate j 48).toArray⟩ : ByteArray) = S at *
      go_wp2_with fail
      exact ⟨⟨j + 1, by go_num, by omega, by rw [HS.out], (by first | trivial | rfl)⟩, by simp [intOf]; omega⟩
    · have hno : ¬ (j : Int) < 60 + (k : Int) := by omega
      obtain rfl : j = 60 + k := by omega
      obtain ⟨b0, b1, b2, b3⟩ := lg_bytes k
      have hfg := four_get k
      rw [b0, b1, b2, b3] at hfg
      have hs : (⟨(List.replicate (60 + k) 48).toArray⟩ : ByteArray).size ≤ 70 := by rw [← size_list]; simp; omega
      have HSZ := Lib.hid (fun j (hj : j < 4) => (by
        have h1 := joinL_length (lgT k j)
        have h2 := (lgT_vl hk10 hj).2.2
        rw [← size_list]; show (joinL (lgT k j)).length ≤ _; omega : (⟨(joinL (lgT k j)).toArray⟩ : ByteArray).size ≤ 800))
      have hlp := fun (u : World) j (hj : j < 4) => long_parse hk10 hj u
      have HLO := Lib.hid (fun (u : World) j (hj : j < 4) => (by
        have := long_open hk10 hj u
        rwa [lg_open] at this : Calls Tryd.prog 15 #[.string (⟨(joinL (lgT k j)).toArray⟩ ++ ⟨#[39]⟩)] u fun e w' => ∃ v X, e = .returned (.tuple #[v, .int .i64 2]) ∧ PV w' u.heap.size v X ∧ Q u w'))
      generalize (⟨(List.replicate (60 + k) 48).toArray⟩ : ByteArray) = S at *
      have HT0 := Lib.hid (fun x (hx : x < 4) => (four_cell w S (⟨#[48, 46]⟩ ++ S) (⟨#[35, 59]⟩ ++ S) (⟨#[35, 59, 48, 46]⟩ ++ S) x hx).trans (by rw [hfg x hx]))
      have hth : (60 + (k : Int) > 64) = (4 < k) := by apply propext; omega
      clear b0 b1 b2 b3 hfg
      by_cases h4 : 4 < k
      case' pos =>
        have h4i : (64 : Int) < 60 + (k : Int) := by omega
        simp only [if_pos h4] at hlp
      case' neg =>
        have h4i : ¬ (64 : Int) < 60 + (k : Int) := by omega
        simp only [if_neg h4] at hlp
      all_goals
        have HLP := Lib.hid hlp
        clear hlp hth
        go_wp2_with fail
        go_loopw [8] (fun i wr => ∃ j : Nat, i = .int .i64 j ∧ j ≤ 4 ∧ Hid (∀ x, x < 4 → wr.cell? ⟨w.heap.size, x, none⟩ = some (.string ⟨(joinL (lgT k x)).toArray⟩)) ∧ w.heap.size < wr.heap.size ∧ Q w wr) (fun i _ => 4 - (intOf i).toNat)
        case atStart => exact ⟨0, rfl, by omega, HT0, by simp, (Q.refl w).alloc _⟩
        case round =>
          obtain ⟨j, rfl, hj, HT, hg, hq⟩ := hrel
          have HQ := Lib.hid hq
          by_cases hlt : j < 4
          · have hlti : (j : Int) < 4 := by omega
            have c1 := HT.out j hlt
            have HG := Lib.hid hg
            have htz := HSZ.out j hlt
            have HP1 := Lib.hid (fun u => HLP.out u j hlt)
            have HP2 := Lib.hid (fun u => HLO.out u j hlt)
            have HJ := Lib.hid hlt
            generalize hTT : (⟨(joinL (lgT k j)).toArray⟩ : ByteArray) = T at *
            have HTT := Lib.hid hTT
            clear hq hg hTT
            go_wp2_with fail
            refine (HP1.out _).mono ?_
            rintro e w4 ⟨v1, Xa, rfl, ⟨a, b, c, d, rfl, ha, hb, hc, hd⟩, hq4⟩
            obtain ⟨la, hla⟩ : ∃ n, Xa.pre.length = n := ⟨_, rfl⟩
            obtain ⟨a1, a2, rfl, _, _⟩ := ha.1.form0 hla
            obtain ⟨lb, hlb⟩ : ∃ n, Xa.suf.length = n := ⟨_, rfl⟩
            obtain ⟨b1, b2, rfl, _, _⟩ := hb.1.form0 hlb
            obtain ⟨lc, hlc⟩ : ∃ n, Xa.npre.length = n := ⟨_, rfl⟩
            obtain ⟨c1, c2, rfl, _, _⟩ := hc.1.form0 hlc
            obtain ⟨ld, hld⟩ : ∃ n, Xa.nsuf.length = n := ⟨_, rfl⟩
            obtain ⟨d1, d2, rfl, _, _⟩ := hd.1.form0 hld
            have hqa := hq4.alloc (.cells #[.slice a1 la a2, .slice b1 lb b2, .slice c1 lc c2, .slice d1 ld d2, .int .i64 Xa.pr, .int .i64 Xa.se, .int .i64 Xa.mi, .int .i64 Xa.mf, .int .i64 Xa.xf] 39)
            have HT2 := Lib.hid (fun x (hx : x < 4) => (World.cell?_of_block (w := wr) (hqa.block HG.out)).trans (HT.out x hx))
            have HG2 := Lib.hid (Nat.lt_of_lt_of_le HG.out (Q.le hqa))
            have HQ2 := Lib.hid (HQ.out.trans hqa)
            have c2 := HT2.out j HJ.out
            rw [HTT.out] at c2
            clear ha hb hc hd hq4 hqa hla hlb hlc hld
            go_wp2_with fail
            refine (HP2.out _).mono ?_
            rintro e w5 ⟨v2, Xe, rfl, ⟨a, b, c, d, rfl, ha, hb, hc, hd⟩, hq5⟩
            obtain ⟨le, hle⟩ : ∃ n, Xe.pre.length = n := ⟨_, rfl⟩
            obtain ⟨e1, e2, rfl, _, _⟩ := ha.1.form0 hle
            obtain ⟨lf, hlf⟩ : ∃ n, Xe.suf.length = n := ⟨_, rfl⟩
            obtain ⟨f1, f2, rfl, _, _⟩ := hb.1.form0 hlf
            obtain ⟨lg, hlg⟩ : ∃ n, Xe.npre.length = n := ⟨_, rfl⟩
            obtain ⟨g1, g2, rfl, _, _⟩ := hc.1.form0 hlg
            obtain ⟨lh, hlh⟩ : ∃ n, Xe.nsuf.length = n := ⟨_, rfl⟩
            obtain ⟨h1, h2, rfl, _, _⟩ := hd.1.form0 hlh
            have hqa := hq5.alloc (.cells #[.slice e1 le e2, .slice f1 lf f2, .slice g1 lg g2, .slice h1 lh h2, .int .i64 Xe.pr, .int .i64 Xe.se, .int .i64 Xe.mi, .int .i64 Xe.mf, .int .i64 Xe.xf] 39)
            have HT3 := Lib.hid (fun x (hx : x < 4) => (World.cell?_of_block (w := _) (hqa.block HG2.out)).trans (HT2.out x hx))
            have HG3 := Lib.hid (Nat.lt_of_lt_of_le HG2.out (Q.le hqa))
            have HQ3 := Lib.hid (HQ2.out.trans hqa)
            clear ha hb hc hd hq5 hqa hle hlf hlg hlh
            go_wp2_with fail
            exact ⟨⟨j + 1, by go_num, by omega, HT3, HG3.out, HQ3.out⟩, by simp [intOf]; omega⟩
          · have hno2 : ¬ (j : Int) < 4 := by omega
            clear hq
            go_wp2_with fail
            refine (lives_any _).mono ?_
            rintro e w6 ⟨rfl, hq6⟩
            have hqe := HQ.out.trans hq6
            go_wp2_with fail
            go_ret
            exact ⟨rfl, hqe⟩
end Pg
end Go.Proofs.YtjloibgjnnknnaaDoor
