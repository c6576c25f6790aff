/- A decimal's text as plain mathematics: what is printed, what is parsed, and that what is printed is parsed as it was. -/
import Derived.Test.YtebcgpoemppljaaRows
import Derived.Test.YtebcgpoemppljaaDigM
import Derived.Test.YtebcgpoemppljaaDigL
import Derived.Test.YtebcgpoemppljaaDigA
import Derived.Test.YtebcgpoemppljaaDecM
import Derived.Test.YtebcgpoemppljaaUtfM
set_option linter.unusedVariables false
set_option linter.unusedSimpArgs false
namespace Go.Proofs.Ytebcgpoemppljaa
open Go.RowKit
namespace Dm
def dotB : ByteArray := ⟨#[46]⟩
def minB : ByteArray := ⟨#[45]⟩
/-- Digits' text with a point ahead of the last s ones. -/
def ptx (T : ByteArray) (s : Nat) : ByteArray := if s = 0 then T else T.extract 0 (T.size - s) ++ dotB ++ T.extract (T.size - s) T.size
/-- So many noughts ahead that one digit at least stands ahead of the point. -/
def wid (L : List Int) (s : Nat) : List Int := List.replicate (s + 1 - L.length) 0 ++ L
def prt (g : Bool) (L : List Int) (s : Nat) : ByteArray := if g = true then minB ++ ptx (txtB (wid L s)) s else ptx (txtB (wid L s)) s
theorem wid_len (L : List Int) (s : Nat) : (wid L s).length = max (s + 1) L.length := by
  unfold wid
  rw [List.length_append, List.length_replicate]; omega
theorem wid_num (L : List Int) (s : Nat) : num (wid L s) = num L := by
  unfold wid
  rw [← num_trim, trim_rep, num_trim]
theorem wid_ok (L : List Int) (s : Nat) (h : okD L) : okD (wid L s) := by
  unfold wid
  rw [okD_append]
  refine ⟨fun d hd => ?_, h⟩
  have := List.eq_of_mem_replicate hd
  omega
theorem wid_wid (L : List Int) (s : Nat) : wid (wid L s) s = wid L s := by
  have h := wid_len L s
  generalize wid L s = X at *
  unfold wid
  rw [show s + 1 - X.length = 0 from by omega]; rfl
theorem prt_wid (g : Bool) (L : List Int) (s : Nat) : prt g (wid L s) s = prt g L s := by
  unfold prt
  rw [wid_wid]
theorem txtB_cons (d : Int) (X : List Int) : txtB (d :: X) = strOfNums [48 + d] ++ txtB X := by
  unfold txtB
  have e : (strOfNums (txtL (d :: X))).data.toList = (strOfNums [48 + d] ++ strOfNums (txtL X)).data.toList := by
    rw [strOfNums_data, ByteArray.data_append, Array.toList_append, strOfNums_data, strOfNums_data, ← List.map_append]
    rfl
  have e2 := Array.toList_inj.1 e
  generalize strOfNums (txtL (d :: X)) = t at *
  generalize strOfNums [48 + d] ++ strOfNums (txtL X) = u at *
  cases t; cases u; simp only at e2; rw [e2]
theorem txt_nought (j : Nat) (L : List Int) : (⟨#[48]⟩ : ByteArray) ++ txtB (List.replicate j 0 ++ L) = txtB (List.replicate (j + 1) 0 ++ L) := by
  rw [List.replicate_succ, List.cons_append, txtB_cons]
  have : strOfNums [48 + 0] = ⟨#[48]⟩ := by decide +kernel
  rw [this]

/-- What is left of a text behind its sign, gone through: the digits, whether there was a point, how many behind it, how many ahead. -/
def scan : List UInt8 → List Int → Bool → Nat → Nat → Option (List Int × Bool × Nat × Nat)
  | [], ds, pt, sc, ah => some (ds, pt, sc, ah)
  | c :: r, ds, pt, sc, ah =>
    if c.toNat = 46 ∧ pt = false then scan r ds true sc ah
    else if 48 ≤ c.toNat ∧ c.toNat ≤ 57 then (if pt = true then scan r (ds ++ [(c.toNat : Int) - 48]) pt (sc + 1) ah else scan r (ds ++ [(c.toNat : Int) - 48]) pt sc (ah + 1))
    else none
/-- Is there a sign ahead? -/
def sgn (l : List UInt8) : Bool := decide ((l.take 1) = [45])
def bod (l : List UInt8) : List UInt8 := if sgn l = true then l.drop 1 else l
/-- What a text is parsed as: the sign, the digits, the scale; the error. -/
def prs (l : List UInt8) : Bool × List Int × Nat × Int :=
  match scan (bod l) [] false 0 0 with
  | none => (false, [], 0, 2)
  | some (ds, pt, sc, ah) => if ah = 0 ∨ (pt = true ∧ sc = 0) then (false, [], 0, 2) else if 1000 < sc then (false, [], 0, 3) else (sgn l, ds, sc, 0)
theorem byte_nat (d : Int) (h : 0 ≤ d ∧ d ≤ 9) : (UInt8.ofNat (48 + d).toNat).toNat = (48 + d).toNat := byte_of d h
theorem scan_digits (X : List Int) (h : okD X) (r : List UInt8) (ds : List Int) (pt : Bool) (sc ah : Nat) :
    scan ((txtL X).map (fun n => UInt8.ofNat n.toNat) ++ r) ds pt sc ah = scan r (ds ++ X) pt (if pt = true then sc + X.length else sc) (if pt = true then ah else ah + X.length) := by
  induction X generalizing ds sc ah with
  | nil => cases pt <;> simp [txtL]
  | cons d X ih =>
    obtain ⟨hd, hX⟩ := okD_cons.1 h
    have hb := byte_nat d hd
    have e : (txtL (d :: X)).map (fun n => UInt8.ofNat n.toNat) ++ r = UInt8.ofNat (48 + d).toNat :: ((txtL X).map (fun n => UInt8.ofNat n.toNat) ++ r) := rfl
    rw [e, scan, if_neg (by rw [hb]; omega), if_pos (by rw [hb]; omega), hb]
    have e2 : ((48 + d).toNat : Int) - 48 = d := by omega
    rw [e2]
    cases pt
    · rw [if_neg (by decide), ih hX]
      simp only [Bool.false_eq_true, if_false, List.append_assoc, List.singleton_append, List.length_cons]
      rw [show ah + 1 + X.length = ah + (X.length + 1) from by omega]
    · rw [if_pos rfl, ih hX]
      simp only [if_true, List.append_assoc, List.singleton_append, List.length_cons]
      rw [show sc + 1 + X.length = sc + (X.length + 1) from by omega]
theorem txt_list (X : List Int) : (txtB X).data.toList = (txtL X).map (fun n => UInt8.ofNat n.toNat) := strOfNums_data _
theorem txtL_append (X Y : List Int) : txtL (X ++ Y) = txtL X ++ txtL Y := List.map_append
theorem ext_list (T : ByteArray) (a b : Nat) : (T.extract a b).data.toList = (T.data.toList.take b).drop a := by
  simp [ByteArray.data_extract, Array.toList_extract, List.extract_eq_take_drop, List.drop_take]
theorem ptx_list (X : List Int) (s : Nat) (hs : s ≠ 0) (hl : s ≤ X.length) : (ptx (txtB X) s).data.toList = (txtL (X.take (X.length - s))).map (fun n => UInt8.ofNat n.toNat) ++ (46 :: (txtL (X.drop (X.length - s))).map (fun n => UInt8.ofNat n.toNat)) := by
  unfold ptx
  rw [if_neg hs, ByteArray.data_append, ByteArray.data_append, Array.toList_append, Array.toList_append, ext_list, ext_list, txt_size, txt_list]
  have hlen : ((txtL X).map (fun n => UInt8.ofNat n.toNat)).length = X.length := by simp [txtL]
  rw [List.drop_zero, List.take_of_length_le (Nat.le_of_eq hlen)]
  unfold txtL
  rw [← List.map_take, ← List.map_take, ← List.map_drop, ← List.map_drop, List.append_assoc]
  rfl
theorem head_digit (X : List Int) (h : okD X) (r : List UInt8) (hx : X ≠ []) : sgn ((txtL X).map (fun n => UInt8.ofNat n.toNat) ++ r) = false := by
  cases X with
  | nil => exact absurd rfl hx
  | cons d X =>
    obtain ⟨hd, _⟩ := okD_cons.1 h
    have hb := byte_nat d hd
    unfold sgn
    have e : ((txtL (d :: X)).map (fun n => UInt8.ofNat n.toNat) ++ r).take 1 = [UInt8.ofNat (48 + d).toNat] := rfl
    rw [e]
    refine decide_eq_false fun h => ?_
    have h2 : UInt8.ofNat (48 + d).toNat = 45 := by simpa using h
    rw [h2] at hb
    have : (45 : UInt8).toNat = 45 := rfl
    omega
theorem prs_ptx (X : List Int) (s : Nat) (h : okD X) (hl : s < X.length) (hs : s ≤ 1000) : sgn (ptx (txtB X) s).data.toList = false ∧ scan (ptx (txtB X) s).data.toList [] false 0 0 = some (X, decide (s ≠ 0), s, X.length - s) := by
  by_cases h0 : s = 0
  · subst h0
    have e : (ptx (txtB X) 0).data.toList = (txtL X).map (fun n => UInt8.ofNat n.toNat) ++ [] := by
      unfold ptx
      rw [if_pos rfl, txt_list, List.append_nil]
    rw [e]
    refine ⟨head_digit X h [] (by rintro rfl; simp at hl), ?_⟩
    rw [scan_digits X h]
    simp [scan]
  · rw [ptx_list X s h0 (by omega)]
    have h1 : okD (X.take (X.length - s)) := okD_take h _
    have h2 : okD (X.drop (X.length - s)) := okD_drop h _
    have e1 : (X.take (X.length - s)).length = X.length - s := by rw [List.length_take]; omega
    have e2 : (X.drop (X.length - s)).length = s := by rw [List.length_drop]; omega
    refine ⟨head_digit _ h1 _ (by intro hn; rw [hn] at e1; simp at e1; omega), ?_⟩
    rw [scan_digits _ h1, scan, if_pos ⟨rfl, rfl⟩]
    have := scan_digits _ h2 [] ([] ++ X.take (X.length - s)) true 0 (0 + (X.take (X.length - s)).length)
    rw [List.append_nil] at this
    simp only [Bool.false_eq_true, if_false] 
    rw [this]
    simp only [if_true, scan, List.nil_append, e1, e2, List.take_append_drop]
    simp [h0]
/-- What is printed is parsed as it was. -/
theorem prs_prt (g : Bool) (L : List Int) (s : Nat) (h : okD L) (hs : s ≤ 1000) : prs (prt g L s).data.toList = (g, wid L s, s, 0) := by
  have hw := wid_len L s
  have hx := prs_ptx (wid L s) s (wid_ok L s h) (by omega) hs
  obtain ⟨h1, h2⟩ := hx
  have hb : bod (prt g L s).data.toList = (ptx (txtB (wid L s)) s).data.toList ∧ sgn (prt g L s).data.toList = g := by
    unfold prt
    cases g
    · rw [if_neg (by decide)]
      unfold bod
      rw [h1]
      exact ⟨if_neg (by decide), rfl⟩
    · rw [if_pos rfl, ByteArray.data_append, Array.toList_append]
      have e : minB.data.toList = [45] := rfl
      rw [e]
      have e2 : sgn ([45] ++ (ptx (txtB (wid L s)) s).data.toList) = true := by unfold sgn; simp
      unfold bod
      rw [e2]
      exact ⟨if_pos rfl, rfl⟩
  unfold prs
  rw [hb.1, hb.2, h2]
  show (if (wid L s).length - s = 0 ∨ (decide (s ≠ 0) = true ∧ s = 0) then _ else _) = _
  rw [if_neg (by simp; omega), if_neg (by omega)]
theorem prt_size (g : Bool) (L : List Int) (s : Nat) : (prt g L s).size ≤ max (s + 1) L.length + 2 := by
  have hw := wid_len L s
  have ht : (ptx (txtB (wid L s)) s).size ≤ max (s + 1) L.length + 1 := by
    unfold ptx
    have := txt_size (wid L s)
    split
    · omega
    · rw [ByteArray.size_append, ByteArray.size_append, ByteArray.size_extract, ByteArray.size_extract]
      have : dotB.size = 1 := rfl
      omega
  unfold prt
  split
  · rw [ByteArray.size_append]
    have : minB.size = 1 := rfl
    omega
  · omega
end Dm
end Go.Proofs.Ytebcgpoemppljaa
