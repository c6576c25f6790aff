/- The document's own answers: a number's decimal digits, an error's text, a path with one more ahead. -/
import Derived.Test.YtfnojkcklgmoiaaDoorErrF
set_option linter.unusedVariables false
set_option linter.unusedSimpArgs false
namespace Go.Proofs.YtfnojkcklgmoiaaDoor
open Go.RowKit Um
namespace Fe

/-- A text of one digit. -/
def digB (r : Int) : ByteArray := ⟨#[UInt8.ofNat (48 + r.toNat)]⟩
theorem digB_str (x r : Int) (h : x = 48 + r) (hr : 0 ≤ r) : strOfNums [x] = digB r := by
  subst h
  unfold strOfNums digB
  simp only [List.map_cons, List.map_nil]
  rw [show (48 + r).toNat = 48 + r.toNat from by omega]
theorem decDigits_one (u : Nat) (h : u < 10) : Lib.decDigits u = [UInt8.ofNat (48 + u)] := by rw [Lib.decDigits, dif_pos h]
theorem decDigits_more (u : Nat) (h : ¬ u < 10) : Lib.decDigits u = Lib.decDigits (u / 10) ++ [UInt8.ofNat (48 + u % 10)] := by rw [Lib.decDigits, dif_neg h]
theorem itoB_one (n : Int) (h0 : 0 ≤ n) (h1 : n < 10) : itoB n = digB n := by
  unfold itoB Lib.itoa digB
  rw [if_neg (by omega), decDigits_one _ (by omega)]
theorem itoB_neg_one (n : Int) (h0 : n < 0) (h1 : -10 < n) : itoB n = ⟨#[45]⟩ ++ digB (-n) := by
  apply ba_ext
  unfold itoB Lib.itoa digB
  rw [if_pos h0, decDigits_one _ (by omega), ByteArray.data_append]
  simp [show n.natAbs = (-n).toNat from by omega]
theorem itoB_more (n q r : Int) (h1 : 10 ≤ n) (hq : q = n / 10) (hr : r = n % 10) : itoB n = itoB q ++ digB r := by
  subst hq hr
  apply ba_ext
  unfold itoB Lib.itoa digB
  rw [if_neg (by omega), if_neg (by omega), decDigits_more _ (by omega), ByteArray.data_append]
  simp [show n.toNat / 10 = (n / 10).toNat from by omega, show n.toNat % 10 = (n % 10).toNat from by omega]
theorem itoB_neg_more (n q r : Int) (h1 : n ≤ -10) (hq : q = -(-n / 10)) (hr : r = -n % 10) : itoB n = itoB q ++ digB r := by
  subst hq hr
  apply ba_ext
  unfold itoB Lib.itoa digB
  rw [if_pos (by omega), if_pos (by omega), decDigits_more _ (by omega), ByteArray.data_append]
  simp [show n.natAbs / 10 = (-n / 10).toNat from by omega, show n.natAbs % 10 = (-n % 10).toNat from by omega, show (-(-n / 10)).natAbs = (-n / 10).toNat from by omega]

set_option maxHeartbeats 4000000 in
set_option maxRecDepth 100000 in
theorem dec_small (n : Int) (w : World) (h0 : -10 < n) (h1 : n < 10) :
    Calls Tryd.prog 32 #[.int .i64 n] w fun e w' => e = .returned (.string (itoB n)) ∧ Q w w' := by
  have hc1 := fun (x : Int) => Ur.convN w [x] 1 rfl
  simp only [List.map_cons, List.map_nil] at hc1
  have hq := Lib.hid (fun x : Int => (Q.refl w).alloc (.cells #[.int .u8 x] 5))
  by_cases hs : 0 ≤ n
  · obtain ⟨r, hr⟩ : ∃ r, n % 10 = r := ⟨_, rfl⟩
    have hrr : r = n := by omega
    have hr0 : 0 ≤ r := by omega
    have hr1 : r < 10 := by omega
    have HS := Lib.hid (fun x hx => digB_str x r hx hr0)
    have HI := Lib.hid (show itoB n = digB r by rw [hrr]; exact itoB_one n hs h1)
    have h12 : ¬ n < 0 := by omega
    clear hrr
    go_enter Tryd.func32, Tryd.ntmps32
    go_wp2
    go_ret
    rw [HI.out]
    exact ⟨retS (HS.out _ rfl), hq.out _⟩
  · obtain ⟨r, hr⟩ : ∃ r, n.tmod 10 = -r := ⟨-(n.tmod 10), by omega⟩
    have hrr : r = -n := by
      have := Int.neg_tmod (a := -n) (b := 10)
      rw [Int.neg_neg, hr, Int.tmod_eq_emod_of_nonneg (by omega)] at this
      omega
    have hr0 : 0 < r := by omega
    have hr1 : r < 10 := by omega
    have HS := Lib.hid (fun x hx => digB_str x r hx (by omega))
    have hsz : ∀ x : Int, (strOfNums [x]).size = 1 := fun x => strOfNums_size [x]
    have HI := Lib.hid (show itoB n = ⟨#[45]⟩ ++ digB r by rw [hrr]; exact itoB_neg_one n (by omega) h0)
    have h12 : n < 0 := by omega
    have h13 : -r < 0 := by omega
    clear hrr hs
    go_enter Tryd.func32, Tryd.ntmps32
    go_wp2
    go_ret
    rw [HI.out, HS.out _ rfl]
    exact ⟨rfl, hq.out _⟩

set_option maxHeartbeats 4000000 in
set_option maxRecDepth 100000 in
theorem dec_any (k : Nat) : ∀ (n : Int) (w : World), n.natAbs ≤ k → -9223372036854775808 ≤ n → n ≤ 9223372036854775807 →
    Calls Tryd.prog 32 #[.int .i64 n] w fun e w' => e = .returned (.string (itoB n)) ∧ Q w w' := by
  induction k with
  | zero =>
    intro n w hn h0 h1
    exact dec_small n w (by omega) (by omega)
  | succ k ih =>
    intro n w hn h0 h1
    have hc1 := fun (x : Int) => Ur.convN w [x] 1 rfl
    simp only [List.map_cons, List.map_nil] at hc1
    have hq := Lib.hid (fun x : Int => (Q.refl w).alloc (.cells #[.int .u8 x] 5))
    by_cases hl : -10 < n ∧ n < 10
    · exact dec_small n w hl.1 hl.2
    by_cases hs : 0 ≤ n
    · obtain ⟨r, hr⟩ : ∃ r, n % 10 = r := ⟨_, rfl⟩
      obtain ⟨q, hqq⟩ : ∃ q, n / 10 = q := ⟨_, rfl⟩
      have hr0 : 0 ≤ r := by omega
      have hr1 : r < 10 := by omega
      have HS := Lib.hid (fun x hx => digB_str x r hx hr0)
      have hsz : ∀ x : Int, (strOfNums [x]).size = 1 := fun x => strOfNums_size [x]
      have HI := Lib.hid (itoB_more n q r (by omega) hqq.symm hr.symm)
      have h10 : ¬ n < 10 := by omega
      have h11 : -10 < n := by omega
      have hqb : -9223372036854775808 ≤ q ∧ q ≤ 9223372036854775807 := by omega
      have hqz := itoB_size q hqb.1 hqb.2
      have IH := Lib.hid (fun w => ih q w (by omega) hqb.1 hqb.2)
      clear hl ih hn
      go_enter Tryd.func32, Tryd.ntmps32
      go_wp2_with fail
      refine (IH.out _).mono ?_
      rintro e w1 ⟨rfl, hq1⟩
      go_wp2_with fail
      go_ret
      rw [HI.out, HS.out _ rfl]
      exact ⟨rfl, (hq.out _).trans hq1⟩
    · obtain ⟨r, hr⟩ : ∃ r, n.tmod 10 = -r := ⟨-(n.tmod 10), by omega⟩
      obtain ⟨q, hqq⟩ : ∃ q, n.tdiv 10 = q := ⟨_, rfl⟩
      have hrr : r = -n % 10 := by
        have := Int.neg_tmod (a := -n) (b := 10)
        rw [Int.neg_neg, hr, Int.tmod_eq_emod_of_nonneg (by omega)] at this
        omega
      have hqe : q = -(-n / 10) := by
        have := Int.neg_tdiv (a := -n) (b := 10)
        rw [Int.neg_neg, hqq, Int.tdiv_eq_ediv_of_nonneg (by omega)] at this
        exact this
      have hr0 : 0 ≤ r := by omega
      have hr1 : r < 10 := by omega
      have HS := Lib.hid (fun x hx => digB_str x r hx hr0)
      have hsz : ∀ x : Int, (strOfNums [x]).size = 1 := fun x => strOfNums_size [x]
      have HI := Lib.hid (itoB_neg_more n q r (by omega) hqe hrr)
      have h11 : ¬ -10 < n := by omega
      have h12 : n < 0 := by omega
      have hqb : -9223372036854775808 ≤ q ∧ q ≤ 9223372036854775807 := by omega
      have hqz := itoB_size q hqb.1 hqb.2
      have IH := Lib.hid (fun w => ih q w (by omega) hqb.1 hqb.2)
      clear hl ih hn hs hrr hqe
      by_cases hz : r = 0
      · subst hz
        rw [Int.neg_zero] at hr
        go_enter Tryd.func32, Tryd.ntmps32
        go_wp2_with fail
        refine (IH.out _).mono ?_
        rintro e w1 ⟨rfl, hq1⟩
        go_wp2_with fail
        go_ret
        rw [HI.out, HS.out 48 rfl]
        exact ⟨rfl, (hq.out _).trans hq1⟩
      · have h13 : -r < 0 := by omega
        go_enter Tryd.func32, Tryd.ntmps32
        go_wp2_with fail
        refine (IH.out _).mono ?_
        rintro e w1 ⟨rfl, hq1⟩
        go_wp2_with fail
        go_ret
        rw [HI.out, HS.out _ rfl]
        exact ⟨rfl, (hq.out _).trans hq1⟩

set_option maxHeartbeats 4000000 in
set_option maxRecDepth 100000 in
theorem rtext_any (v : Value) (ps : List ByteArray) (c : Int) (w : World) (hv : SLst w v ps) (h0 : -9223372036854775808 ≤ c) (h1 : c ≤ 9223372036854775807) (hl : ps.length ≤ 1000000) (hc : (cat ps).length ≤ 1000000) :
    Calls Tryd.prog 18 #[v, .int .i64 c] w fun e w' => e = .returned (.string (told ps c)) ∧ Q w w' := by
  obtain ⟨a, cp, rfl⟩ := hv.shape
  have hd := Lib.hid (fun w1 => dec_any c.natAbs c w1 (Nat.le_refl _) h0 h1)
  have hz := itoB_size c h0 h1
  have HP := Lib.hid (fun k p h => pre_take ps k p h)
  have hle : ∀ k, (⟨(pre (ps.take k)).toArray⟩ : ByteArray).size ≤ 3000000 := fun k => by
    have := pre_take_le ps k
    rw [← size_list]; simp; omega
  have HLE := Lib.hid hle
  have HE := Lib.hid (show told ps c = ⟨(pre ps).toArray⟩ ++ itoB c from by apply ba_ext; rw [ByteArray.data_append]; simp [told, itoB])
  clear hle hc
  go_enter Tryd.func18, Tryd.ntmps18
  go_wp2_with fail
  go_loopw [5, 6] (fun s i wr => ∃ k : Nat, i = .int .i64 k ∧ k ≤ ps.length ∧ s = .string ⟨(pre (ps.take k)).toArray⟩ ∧ Q w wr) (fun _ i _ => ps.length - (intOf i).toNat)
  case atStart => exact ⟨0, rfl, by omega, rfl, Q.refl _⟩
  case round =>
    obtain ⟨k, rfl, hk, rfl, hq⟩ := hrel
    by_cases hlt : k < ps.length
    · obtain ⟨g, off, cap, hvv, hg, _, _, hc1⟩ := hv.cellOf rfl (List.getElem?_eq_getElem hlt)
      cases hvv
      have c1 := (World.cell?_of_block (w := w) (a := ⟨g, off + k, none⟩) (hq.block hg)).trans hc1
      have hpt := HP.out k _ (List.getElem?_eq_getElem hlt)
      generalize ps[k] = p at c1 hpt
      have hsz := HLE.out k
      have hsz2 := HLE.out (k + 1)
      have hj : (⟨(pre (ps.take k)).toArray⟩ : ByteArray) ++ p ++ ⟨#[58, 32]⟩ = ⟨(pre (ps.take (k + 1))).toArray⟩ := by
        apply ba_ext; rw [hpt, ByteArray.data_append, ByteArray.data_append]; simp
      rw [← hj] at hsz2
      have hp : p.size ≤ 3000000 := by
        rw [ByteArray.size_append, ByteArray.size_append] at hsz2; omega
      generalize hS : (⟨(pre (ps.take k)).toArray⟩ : ByteArray) = S at hsz hj ⊢
      have HJ := Lib.hid hj
      clear hj hS hsz2 hpt hc1
      go_wp2_with fail
      exact ⟨⟨k + 1, by go_num, by omega, by rw [← HJ.out], hq⟩, by simp [intOf]; omega⟩
    · have hke : k = ps.length := by omega
      have hall : ps.take k = ps := List.take_of_length_le (by omega)
      have hsz := HLE.out k
      rw [hall] at hsz ⊢
      clear hall
      generalize (⟨(pre ps).toArray⟩ : ByteArray) = S at hsz HE ⊢
      go_wp2_with fail
      refine (hd.out _).mono ?_
      rintro e w1 ⟨rfl, hq1⟩
      go_wp2_with fail
      go_ret
      rw [HE.out]
      exact ⟨rfl, hq.trans hq1⟩

set_option maxHeartbeats 4000000 in
set_option maxRecDepth 100000 in
theorem front_any (s : ByteArray) (v : Value) (ps : List ByteArray) (w : World) (hv : SLst w v ps) (hl : ps.length ≤ 1000000) :
    Calls Tryd.prog 28 #[.string s, v] w fun e w' => (∃ x, e = .returned x ∧ SOwn w' w.heap.size x (s :: ps)) ∧ Q w w' := by
  obtain ⟨a, cp, rfl⟩ := hv.shape
  have h0 : SOwn w w.heap.size (.slice none 0 0) [] := GOwn.nil _ _ _ _
  go_enter Tryd.func28, Tryd.ntmps28
  go_wp2_with (at_builtin; refine gpush elemS (en := Value.string) h0 rfl _ _ rfl s rfl rfl rfl (by simp) (Nat.le_refl _) ?_)
  intro x w1 hx hgrow _
  have hq1 : Q w w1 := (Q.refl w).grown hgrow (fun j e => (h0.lt j e).1)
  have hv1 := hv.q hq1
  have hqs := hq1.le
  obtain ⟨xa, xc, rfl, _, _⟩ := hx.lst.form0 (n := 1) (by simp)
  go_wp2_with (at_builtin; refine gpushl elemS oneS hx hv1 rfl _ _ rfl rfl rfl (by simp; omega) hqs ?_)
  intro y w2 hy hgrow2 _
  have hq2 : Q w w2 := hq1.grown hgrow2 (fun j e => (hx.lt j e).1)
  obtain ⟨ya, yc, rfl, _, _⟩ := hy.lst.form0 (n := ps.length + 1) (by simp)
  go_wp2
  go_ret
  exact ⟨⟨_, rfl, hy⟩, hq2⟩

end Fe
end Go.Proofs.YtfnojkcklgmoiaaDoor
