/- Characters and their bytes, in plain Lean: what a text's characters are, and what of them is told again. No program is named here. The classes of characters as plain mathematics: the table's rows, a character's class, and what both answers say of it. Clusters as plain mathematics: what is remembered of the characters so far, whether one more is joined, where clusters begin, and which bytes they are. Clusters as plain mathematics, further: they rise, they are the text together, where they part, what a plain text's are, and how many flags and families come to. -/
import Derived.Laws.RangeAny
import Derived.Laws.Runes
import Derived.Lib.Strings
import Derived.Lib.Hide
set_option linter.unusedVariables false
set_option linter.unusedSimpArgs false
namespace Go.Proofs.YtglljkbpdbnhaaaGreatDoor.Um

/-- Whether a number is a character. -/
def vld (c : Int) : Bool := Utf8.valid c
theorem vld_iff (c : Int) : vld c = true ↔ (0 ≤ c ∧ c ≤ 1114111 ∧ (c < 55296 ∨ 57343 < c)) := by
  unfold vld; rw [validRune_eq]; unfold validRune; rw [decide_eq_true_iff]; omega
theorem vld_false (c : Int) : vld c = false ↔ ¬ (0 ≤ c ∧ c ≤ 1114111 ∧ (c < 55296 ∨ 57343 < c)) := by
  rw [← vld_iff]; cases vld c <;> simp

/-- A character's bytes, by the document. -/
def enc (c : Int) : List UInt8 := (Utf8.encode c).data.toList

theorem enc1 (c : Int) (h0 : 0 ≤ c) (h : c < 128) : enc c = [UInt8.ofNat c.toNat] := by
  have hv : Utf8.valid c = true := (vld_iff c).2 (by omega)
  unfold enc Utf8.encode
  simp only [hv, if_true]
  rw [if_pos (by omega)]
theorem enc2 (c : Int) (h0 : 128 ≤ c) (h : c < 2048) : enc c = [UInt8.ofNat (192 + c.toNat / 64), UInt8.ofNat (128 + c.toNat % 64)] := by
  have hv : Utf8.valid c = true := (vld_iff c).2 (by omega)
  unfold enc Utf8.encode
  simp only [hv, if_true]
  rw [if_neg (by omega), if_pos (by omega)]
theorem enc3 (c : Int) (h0 : 2048 ≤ c) (h : c < 65536) (hv : vld c = true) : enc c = [UInt8.ofNat (224 + c.toNat / 4096), UInt8.ofNat (128 + c.toNat / 64 % 64), UInt8.ofNat (128 + c.toNat % 64)] := by
  have hv : Utf8.valid c = true := hv
  unfold enc Utf8.encode
  simp only [hv, if_true]
  rw [if_neg (by omega), if_neg (by omega), if_pos (by omega)]
theorem enc4 (c : Int) (h0 : 65536 ≤ c) (hv : vld c = true) : enc c = [UInt8.ofNat (240 + c.toNat / 262144), UInt8.ofNat (128 + c.toNat / 4096 % 64), UInt8.ofNat (128 + c.toNat / 64 % 64), UInt8.ofNat (128 + c.toNat % 64)] := by
  have hv : Utf8.valid c = true := hv
  unfold enc Utf8.encode
  simp only [hv, if_true]
  rw [if_neg (by omega), if_neg (by omega), if_neg (by omega)]

/-- The four forms, in one: to part a proof on. -/
theorem forms (c : Int) (hv : vld c = true) :
    (0 ≤ c ∧ c < 128 ∧ enc c = [UInt8.ofNat c.toNat]) ∨
    (128 ≤ c ∧ c < 2048 ∧ enc c = [UInt8.ofNat (192 + c.toNat / 64), UInt8.ofNat (128 + c.toNat % 64)]) ∨
    (2048 ≤ c ∧ c < 65536 ∧ (c < 55296 ∨ 57343 < c) ∧ enc c = [UInt8.ofNat (224 + c.toNat / 4096), UInt8.ofNat (128 + c.toNat / 64 % 64), UInt8.ofNat (128 + c.toNat % 64)]) ∨
    (65536 ≤ c ∧ c ≤ 1114111 ∧ enc c = [UInt8.ofNat (240 + c.toNat / 262144), UInt8.ofNat (128 + c.toNat / 4096 % 64), UInt8.ofNat (128 + c.toNat / 64 % 64), UInt8.ofNat (128 + c.toNat % 64)]) := by
  have h := (vld_iff c).1 hv
  by_cases h1 : c < 128
  · exact .inl ⟨h.1, h1, enc1 c h.1 h1⟩
  by_cases h2 : c < 2048
  · exact .inr (.inl ⟨by omega, h2, enc2 c (by omega) h2⟩)
  by_cases h3 : c < 65536
  · exact .inr (.inr (.inl ⟨by omega, h3, h.2.2, enc3 c (by omega) h3 hv⟩))
  · exact .inr (.inr (.inr ⟨by omega, h.2.1, enc4 c (by omega) hv⟩))

/-- The k-th byte of a text, 0 where there is none. -/
def byt (l : List UInt8) (k : Nat) : Nat := (l.getD k 0).toNat
theorem byt_lt (l : List UInt8) (k : Nat) : byt l k < 256 := (l.getD k 0).toNat_lt

/-- The first character of a text, and how many bytes it takes: as the language tells it. -/
def dec (l : List UInt8) : Nat × Nat := Utf8.decode ⟨l.toArray⟩ 0

theorem get_list (l : List UInt8) (k : Nat) : ((⟨l.toArray⟩ : ByteArray).get! k).toNat = byt l k := by
  unfold byt
  show (l.toArray[k]!).toNat = _
  congr 1
  simp [List.getD_eq_getElem?_getD, getElem!_def]
  cases l[k]? <;> rfl

theorem decode_dec (s : ByteArray) (i : Nat) : Utf8.decode s i = dec (s.data.toList.drop i) := by
  have h1 : ∀ k, s.get! (i + k) = (⟨(s.data.toList.drop i).toArray⟩ : ByteArray).get! (0 + k) := by
    intro k
    show s.data[i + k]! = (s.data.toList.drop i).toArray[0 + k]!
    simp [getElem!_def]
  have h2 : ∀ k, (i + k < s.size) = (0 + k < (⟨(s.data.toList.drop i).toArray⟩ : ByteArray).size) := by
    intro k
    have e1 : s.size = s.data.size := rfl
    have e2 : (⟨(s.data.toList.drop i).toArray⟩ : ByteArray).size = s.data.size - i := by
      show (s.data.toList.drop i).toArray.size = _
      simp
    rw [e1, e2]
    apply propext
    omega
  unfold dec Utf8.decode
  simp only [h1, h2]


/-- 'dec', spelt over bytes. -/
theorem dec_eq (l : List UInt8) : dec l =
    if byt l 0 < 128 then (byt l 0, 1)
    else if byt l 0 / 32 = 6 ∧ 1 < l.length ∧ byt l 1 / 64 = 2 then
      if (byt l 0 % 32) * 64 + byt l 1 % 64 ≥ 128 then ((byt l 0 % 32) * 64 + byt l 1 % 64, 2) else (65533, 1)
    else if byt l 0 / 16 = 14 ∧ (1 < l.length ∧ byt l 1 / 64 = 2) ∧ 2 < l.length ∧ byt l 2 / 64 = 2 then
      if (byt l 0 % 16) * 4096 + (byt l 1 % 64) * 64 + byt l 2 % 64 ≥ 2048 ∧ vld (((byt l 0 % 16) * 4096 + (byt l 1 % 64) * 64 + byt l 2 % 64 : Nat) : Int) = true then ((byt l 0 % 16) * 4096 + (byt l 1 % 64) * 64 + byt l 2 % 64, 3) else (65533, 1)
    else if byt l 0 / 8 = 30 ∧ (1 < l.length ∧ byt l 1 / 64 = 2) ∧ (2 < l.length ∧ byt l 2 / 64 = 2) ∧ 3 < l.length ∧ byt l 3 / 64 = 2 then
      if (byt l 0 % 8) * 262144 + (byt l 1 % 64) * 4096 + (byt l 2 % 64) * 64 + byt l 3 % 64 ≥ 65536 ∧ vld (((byt l 0 % 8) * 262144 + (byt l 1 % 64) * 4096 + (byt l 2 % 64) * 64 + byt l 3 % 64 : Nat) : Int) = true then ((byt l 0 % 8) * 262144 + (byt l 1 % 64) * 4096 + (byt l 2 % 64) * 64 + byt l 3 % 64, 4) else (65533, 1)
    else (65533, 1) := by
  have hs : (⟨l.toArray⟩ : ByteArray).size = l.length := by show l.toArray.size = _; simp
  unfold dec Utf8.decode
  simp only [Nat.zero_add, get_list, hs, Utf8.runeError, Bool.and_eq_true, decide_eq_true_eq, beq_iff_eq, vld, and_assoc]
  congr

theorem u8 {a : UInt8} {n : Nat} (h : a.toNat = n) : a = UInt8.ofNat n := by rw [← h]; exact UInt8.ofNat_toNat.symm
theorem u8_nat (n : Nat) (h : n < 256) : (UInt8.ofNat n).toNat = n := by simp; omega

/-- A text of k bytes at least, its first ones named. -/
theorem list1 {l : List UInt8} (h : 0 < l.length) : ∃ a r, l = a :: r := by
  match l, h with
  | a :: r, _ => exact ⟨a, r, rfl⟩
theorem list2 {l : List UInt8} (h : 1 < l.length) : ∃ a b r, l = a :: b :: r := by
  match l, h with
  | a :: b :: r, _ => exact ⟨a, b, r, rfl⟩
theorem list3 {l : List UInt8} (h : 2 < l.length) : ∃ a b c r, l = a :: b :: c :: r := by
  match l, h with
  | a :: b :: c :: r, _ => exact ⟨a, b, c, r, rfl⟩
theorem list4 {l : List UInt8} (h : 3 < l.length) : ∃ a b c d r, l = a :: b :: c :: d :: r := by
  match l, h with
  | a :: b :: c :: d :: r, _ => exact ⟨a, b, c, d, r, rfl⟩

/-- What a text begins with is told as it. -/
theorem dec_enc (c : Int) (r : List UInt8) (hv : vld c = true) : dec (enc c ++ r) = (c.toNat, (enc c).length) := by
  rcases forms c hv with ⟨h0, h1, e⟩ | ⟨h0, h1, e⟩ | ⟨h0, h1, h2, e⟩ | ⟨h0, h1, e⟩
  · rw [e, dec_eq]
    have b0 : byt ([UInt8.ofNat c.toNat] ++ r) 0 = c.toNat := u8_nat _ (by omega)
    rw [b0, if_pos (by omega)]; rfl
  · have b0 : byt (enc c ++ r) 0 = 192 + c.toNat / 64 := by rw [e]; exact u8_nat _ (by omega)
    have b1 : byt (enc c ++ r) 1 = 128 + c.toNat % 64 := by rw [e]; exact u8_nat _ (by omega)
    have hl : 1 < (enc c ++ r).length := by rw [e]; simp
    have hn : (enc c).length = 2 := by rw [e]; rfl
    rw [dec_eq, b0, b1, if_neg (by omega), if_pos ⟨by omega, hl, by omega⟩, if_pos (by omega), hn]
    congr 1; omega
  · have b0 : byt (enc c ++ r) 0 = 224 + c.toNat / 4096 := by rw [e]; exact u8_nat _ (by omega)
    have b1 : byt (enc c ++ r) 1 = 128 + c.toNat / 64 % 64 := by rw [e]; exact u8_nat _ (by omega)
    have b2 : byt (enc c ++ r) 2 = 128 + c.toNat % 64 := by rw [e]; exact u8_nat _ (by omega)
    have hl : 2 < (enc c ++ r).length := by rw [e]; simp
    have hn : (enc c).length = 3 := by rw [e]; rfl
    have hc : (224 + c.toNat / 4096) % 16 * 4096 + (128 + c.toNat / 64 % 64) % 64 * 64 + (128 + c.toNat % 64) % 64 = c.toNat := by omega
    rw [dec_eq, b0, b1, b2, if_neg (by omega), if_neg (by omega), if_pos ⟨by omega, ⟨by omega, by omega⟩, hl, by omega⟩, hc, if_pos ⟨by omega, by rw [show ((c.toNat : Nat) : Int) = c from by omega]; exact hv⟩, hn]
  · have b0 : byt (enc c ++ r) 0 = 240 + c.toNat / 262144 := by rw [e]; exact u8_nat _ (by omega)
    have b1 : byt (enc c ++ r) 1 = 128 + c.toNat / 4096 % 64 := by rw [e]; exact u8_nat _ (by omega)
    have b2 : byt (enc c ++ r) 2 = 128 + c.toNat / 64 % 64 := by rw [e]; exact u8_nat _ (by omega)
    have b3 : byt (enc c ++ r) 3 = 128 + c.toNat % 64 := by rw [e]; exact u8_nat _ (by omega)
    have hl : 3 < (enc c ++ r).length := by rw [e]; simp
    have hn : (enc c).length = 4 := by rw [e]; rfl
    have hc : (240 + c.toNat / 262144) % 8 * 262144 + (128 + c.toNat / 4096 % 64) % 64 * 4096 + (128 + c.toNat / 64 % 64) % 64 * 64 + (128 + c.toNat % 64) % 64 = c.toNat := by omega
    rw [dec_eq, b0, b1, b2, b3, if_neg (by omega), if_neg (by omega), if_neg (by omega), if_pos ⟨by omega, ⟨by omega, by omega⟩, ⟨by omega, by omega⟩, hl, by omega⟩, hc, if_pos ⟨by omega, by rw [show ((c.toNat : Nat) : Int) = c from by omega]; exact hv⟩, hn]

/-- Each text that is not empty begins with a character's bytes, and is told so, or with a spoilt one. -/
theorem dec_cases (l : List UInt8) (hl : l ≠ []) :
    (∃ c r, vld c = true ∧ l = enc c ++ r ∧ dec l = (c.toNat, (enc c).length)) ∨ dec l = (65533, 1) := by
  have key : ∀ c : Int, vld c = true → (∃ r, l = enc c ++ r) → ∃ c r, vld c = true ∧ l = enc c ++ r ∧ dec l = (c.toNat, (enc c).length) := by
    rintro c hv ⟨r, hr⟩
    exact ⟨c, r, hv, hr, by rw [hr]; exact dec_enc c r hv⟩
  have g0 := byt_lt l 0; have g1 := byt_lt l 1; have g2 := byt_lt l 2; have g3 := byt_lt l 3
  by_cases h1 : byt l 0 < 128
  · obtain ⟨a, r, rfl⟩ := list1 (List.length_pos_iff.2 hl)
    have b0 : byt (a :: r) 0 = a.toNat := rfl
    refine .inl (key (a.toNat : Int) ((vld_iff _).2 (by omega)) ⟨r, ?_⟩)
    rw [enc1 _ (by omega) (by omega)]
    simp
  by_cases h2 : byt l 0 / 32 = 6 ∧ 1 < l.length ∧ byt l 1 / 64 = 2
  · by_cases hc : (byt l 0 % 32) * 64 + byt l 1 % 64 ≥ 128
    · obtain ⟨a, b, r, rfl⟩ := list2 h2.2.1
      have b0 : byt (a :: b :: r) 0 = a.toNat := rfl
      have b1 : byt (a :: b :: r) 1 = b.toNat := rfl
      refine .inl (key ((a.toNat % 32 * 64 + b.toNat % 64 : Nat) : Int) ((vld_iff _).2 (by omega)) ⟨r, ?_⟩)
      rw [enc2 _ (by omega) (by omega), Int.toNat_natCast, ← u8 (a := a) (by omega), ← u8 (a := b) (by omega)]
      rfl
    · right; rw [dec_eq, if_neg h1, if_pos h2, if_neg hc]
  by_cases h3 : byt l 0 / 16 = 14 ∧ (1 < l.length ∧ byt l 1 / 64 = 2) ∧ 2 < l.length ∧ byt l 2 / 64 = 2
  · by_cases hc : (byt l 0 % 16) * 4096 + (byt l 1 % 64) * 64 + byt l 2 % 64 ≥ 2048 ∧ vld (((byt l 0 % 16) * 4096 + (byt l 1 % 64) * 64 + byt l 2 % 64 : Nat) : Int) = true
    · obtain ⟨a, b, c, r, rfl⟩ := list3 h3.2.2.1
      have b0 : byt (a :: b :: c :: r) 0 = a.toNat := rfl
      have b1 : byt (a :: b :: c :: r) 1 = b.toNat := rfl
      have b2 : byt (a :: b :: c :: r) 2 = c.toNat := rfl
      refine .inl (key _ hc.2 ⟨r, ?_⟩)
      rw [enc3 _ (by omega) (by omega) hc.2, Int.toNat_natCast, ← u8 (a := a) (by omega), ← u8 (a := b) (by omega), ← u8 (a := c) (by omega)]
      rfl
    · right; rw [dec_eq, if_neg h1, if_neg h2, if_pos h3, if_neg hc]
  by_cases h4 : byt l 0 / 8 = 30 ∧ (1 < l.length ∧ byt l 1 / 64 = 2) ∧ (2 < l.length ∧ byt l 2 / 64 = 2) ∧ 3 < l.length ∧ byt l 3 / 64 = 2
  · by_cases hc : (byt l 0 % 8) * 262144 + (byt l 1 % 64) * 4096 + (byt l 2 % 64) * 64 + byt l 3 % 64 ≥ 65536 ∧ vld (((byt l 0 % 8) * 262144 + (byt l 1 % 64) * 4096 + (byt l 2 % 64) * 64 + byt l 3 % 64 : Nat) : Int) = true
    · obtain ⟨a, b, c, d, r, rfl⟩ := list4 h4.2.2.2.1
      have b0 : byt (a :: b :: c :: d :: r) 0 = a.toNat := rfl
      have b1 : byt (a :: b :: c :: d :: r) 1 = b.toNat := rfl
      have b2 : byt (a :: b :: c :: d :: r) 2 = c.toNat := rfl
      have b3 : byt (a :: b :: c :: d :: r) 3 = d.toNat := rfl
      refine .inl (key _ hc.2 ⟨r, ?_⟩)
      rw [enc4 _ (by omega) hc.2, Int.toNat_natCast, ← u8 (a := a) (by omega), ← u8 (a := b) (by omega), ← u8 (a := c) (by omega), ← u8 (a := d) (by omega)]
      rfl
    · right; rw [dec_eq, if_neg h1, if_neg h2, if_neg h3, if_pos h4, if_neg hc]
  · right; rw [dec_eq, if_neg h1, if_neg h2, if_neg h3, if_neg h4]

theorem enc_length (c : Int) (hv : vld c = true) : 1 ≤ (enc c).length ∧ (enc c).length ≤ 4 := by
  rcases forms c hv with ⟨_, _, e⟩ | ⟨_, _, e⟩ | ⟨_, _, _, e⟩ | ⟨_, _, e⟩ <;> rw [e] <;> simp
theorem enc_ne (c : Int) (r : List UInt8) (hv : vld c = true) : enc c ++ r ≠ [] := by
  intro h
  have h2 := enc_length c hv
  rw [List.append_eq_nil_iff] at h
  rw [h.1] at h2; simp at h2
theorem enc_one (c : Int) (hv : vld c = true) (h : (enc c).length = 1) : c < 128 := by
  rcases forms c hv with ⟨_, h1, e⟩ | ⟨_, _, e⟩ | ⟨_, _, _, e⟩ | ⟨_, _, e⟩
  · exact h1
  all_goals rw [e] at h; simp at h
theorem enc_inj {c d : Int} {r t : List UInt8} (hc : vld c = true) (hd : vld d = true) (h : enc c ++ r = enc d ++ t) : c = d ∧ r = t := by
  have e1 := dec_enc c r hc
  have e2 := dec_enc d t hd
  rw [h, e2] at e1
  have hcd : c = d := by
    have := congrArg Prod.fst e1
    have h1 := (vld_iff c).1 hc; have h2 := (vld_iff d).1 hd
    simp only at this; omega
  subst hcd
  exact ⟨rfl, List.append_cancel_left h⟩

/-- 65533 and how it stands in a text. -/
theorem enc_spoilt : enc 65533 = [239, 191, 189] := by decide +kernel
theorem vld_spoilt : vld 65533 = true := (vld_iff _).2 (by omega)

/-- Is the first byte of a text spoilt? -/
def spo (l : List UInt8) : Bool := (dec l == (65533, 1))
theorem spo_false_iff (l : List UInt8) (hl : l ≠ []) : spo l = false ↔ ∃ c r, vld c = true ∧ l = enc c ++ r := by
  unfold spo
  constructor
  · intro h
    rcases dec_cases l hl with ⟨c, r, hv, hr, _⟩ | h'
    · exact ⟨c, r, hv, hr⟩
    · rw [h'] at h; simp at h
  · rintro ⟨c, r, hv, rfl⟩
    rw [dec_enc c r hv, beq_eq_false_iff_ne]
    intro h
    have h1 := congrArg Prod.fst h; have h2 := congrArg Prod.snd h
    simp only at h1 h2
    have := enc_one c hv h2
    omega

/-- The first character as it stands: it, its bytes' number, and whether it is one. -/
def mrk (l : List UInt8) : Int × Nat × Bool := (((dec l).1 : Int), (dec l).2, !spo l)
theorem mark_enc (c : Int) (r : List UInt8) (hv : vld c = true) : mrk (enc c ++ r) = (c, (enc c).length, true) := by
  have hs : spo (enc c ++ r) = false := (spo_false_iff _ (enc_ne c r hv)).2 ⟨c, r, hv, rfl⟩
  unfold mrk
  rw [dec_enc c r hv, hs]
  have := (vld_iff c).1 hv
  simp; omega
theorem mrk_enc' {c : Int} {l r : List UInt8} (hv : vld c = true) (h : l = enc c ++ r) : mrk l = (c, (enc c).length, true) := by rw [h]; exact mark_enc c r hv
theorem mark_spo (l : List UInt8) (h : spo l = true) : mrk l = (65533, 1, false) := by
  unfold mrk; rw [h]
  unfold spo at h
  rw [beq_iff_eq.1 h]; rfl
theorem mark_cases (l : List UInt8) (hl : l ≠ []) :
    (∃ c r, vld c = true ∧ l = enc c ++ r ∧ mrk l = (c, (enc c).length, true)) ∨ (spo l = true ∧ mrk l = (65533, 1, false)) := by
  by_cases h : spo l = true
  · exact .inr ⟨h, mark_spo l h⟩
  · obtain ⟨c, r, hv, rfl⟩ := (spo_false_iff l hl).1 (by simpa using h)
    exact .inl ⟨c, r, hv, rfl, mark_enc c r hv⟩
theorem mark_n (l : List UInt8) (hl : l ≠ []) : 1 ≤ (mrk l).2.1 ∧ (mrk l).2.1 ≤ l.length ∧ (mrk l).2.1 ≤ 4 := by
  rcases mark_cases l hl with ⟨c, r, hv, rfl, hm⟩ | ⟨_, hm⟩
  · rw [hm]; have := enc_length c hv; simp; omega
  · rw [hm]; have := List.length_pos_iff.2 hl; simp; omega
theorem dec_n (l : List UInt8) (hl : l ≠ []) : 1 ≤ (dec l).2 ∧ (dec l).2 ≤ l.length ∧ (dec l).2 ≤ 4 := mark_n l hl
theorem dec_c (l : List UInt8) (hl : l ≠ []) : vld ((dec l).1 : Int) = true := by
  rcases dec_cases l hl with ⟨c, r, hv, hr, hd⟩ | hd
  · rw [hd]; have := (vld_iff c).1 hv; simp only; rw [show ((c.toNat : Nat) : Int) = c from by omega]; exact hv
  · rw [hd]; exact vld_spoilt

/-- What First tells. -/
def fst3 (l : List UInt8) : Int × Int × Bool := if l = [] then (0, 0, false) else ((mrk l).1, ((mrk l).2.1 : Int), (mrk l).2.2)
/-- All of them, in their row. -/
def marksF : Nat → List UInt8 → List (Int × Nat × Bool)
  | 0, _ => []
  | _ + 1, [] => []
  | f + 1, a :: r => mrk (a :: r) :: marksF f ((a :: r).drop (mrk (a :: r)).2.1)
def marks (l : List UInt8) : List (Int × Nat × Bool) := marksF l.length l
theorem marksF_more (f g : Nat) (l : List UInt8) (hf : l.length ≤ f) (hg : l.length ≤ g) : marksF f l = marksF g l := by
  induction f generalizing g l with
  | zero =>
    have : l = [] := List.eq_nil_of_length_eq_zero (by omega)
    subst this
    cases g <;> rfl
  | succ f ih =>
    cases l with
    | nil => cases g <;> rfl
    | cons a r =>
      cases g with
      | zero => simp at hg
      | succ g =>
        have := mark_n (a :: r) (by simp)
        simp only [marksF]
        rw [ih g _ (by simp at *; omega) (by simp at *; omega)]
theorem marks_nil : marks [] = [] := rfl
theorem marks_cons (l : List UInt8) (hl : l ≠ []) : marks l = mrk l :: marks (l.drop (mrk l).2.1) := by
  cases l with
  | nil => exact absurd rfl hl
  | cons a r =>
    have := mark_n (a :: r) (by simp)
    show marksF (r.length + 1) (a :: r) = _
    simp only [marksF]
    unfold marks
    rw [marksF_more _ ((a :: r).drop (mrk (a :: r)).2.1).length _ (by simp at *; omega) (Nat.le_refl _)]
theorem marks_enc (c : Int) (r : List UInt8) (hv : vld c = true) : marks (enc c ++ r) = (c, (enc c).length, true) :: marks r := by
  have hne := enc_ne c r hv
  rw [marks_cons _ hne, mark_enc c r hv]
  simp

/-- What the functions tell of a text. -/
def allL (l : List UInt8) : List Int := (marks l).map (·.1)
def okL (l : List UInt8) : Bool := (marks l).all (·.2.2)
def startsF : Nat → List (Int × Nat × Bool) → List Int
  | at', [] => [(at' : Int)]
  | at', m :: r => (at' : Int) :: startsF (at' + m.2.1) r
theorem startsF_length (n : Nat) (l : List (Int × Nat × Bool)) : (startsF n l).length = l.length + 1 := by
  induction l generalizing n with
  | nil => rfl
  | cons m r ih => simp [startsF, ih]
def startsL (l : List UInt8) : List Int := startsF 0 (marks l)

theorem marks_length (l : List UInt8) : (marks l).length ≤ l.length := by
  have : ∀ n, ∀ l : List UInt8, l.length ≤ n → (marks l).length ≤ l.length := by
    intro n
    induction n with
    | zero => intro l h; have : l = [] := List.eq_nil_of_length_eq_zero (by omega); subst this; simp [marks_nil]
    | succ n ih =>
      intro l h
      by_cases hl : l = []
      · subst hl; simp [marks_nil]
      · have hm := mark_n l hl
        rw [marks_cons l hl]
        have := ih (l.drop (mrk l).2.1) (by simp; omega)
        simp at *; omega
  exact this l.length l (Nat.le_refl _)

/-- Induction along a text's characters. -/
theorem marks_ind {p : List UInt8 → Prop} (h0 : p []) (h1 : ∀ l, l ≠ [] → p (l.drop (mrk l).2.1) → p l) (l : List UInt8) : p l := by
  have : ∀ n, ∀ l : List UInt8, l.length ≤ n → p l := by
    intro n
    induction n with
    | zero => intro l h; have : l = [] := List.eq_nil_of_length_eq_zero (by omega); subst this; exact h0
    | succ n ih =>
      intro l h
      by_cases hl : l = []
      · subst hl; exact h0
      · have hm := mark_n l hl
        exact h1 l hl (ih _ (by simp; omega))
  exact this l.length l (Nat.le_refl _)

/-- A text's bytes, all characters' bytes joined. -/
def one (c : Int) : List UInt8 := if vld c = true then enc c else enc 65533
def joinL (l : List Int) : List UInt8 := l.flatMap one

/-- A number, made a character. -/
def around (n m : Int) : Int := (if n < 0 then -(n + 1) else n) % m
def good (n : Int) : Int := if vld (around n 1114112) = true then around n 1114112 else around n 1114112 + 2048
theorem around_bd (n m : Int) (h : 0 < m) : 0 ≤ around n m ∧ around n m < m := by
  unfold around; exact ⟨Int.emod_nonneg _ (by omega), Int.emod_lt_of_pos _ h⟩
theorem good_vld (n : Int) : vld (good n) = true := by
  have hb := around_bd n 1114112 (by omega)
  unfold good
  split
  · assumption
  · rename_i h
    have h' : vld (around n 1114112) = false := by simpa using h
    rw [vld_false] at h'
    rw [vld_iff]; omega

/-- A character's bytes, none of what is none. -/
def encB (c : Int) : ByteArray := if vld c = true then Utf8.encode c else ⟨#[]⟩
theorem encB_list (c : Int) (hv : vld c = true) : (encB c).data.toList = enc c := by unfold encB; rw [if_pos hv]; rfl
theorem ba_ext {a b : ByteArray} (h : a.data.toList = b.data.toList) : a = b := by
  cases a; cases b; congr; exact Array.ext' h

theorem hasPrefix_iff (l p : List UInt8) : Lib.hasPrefix l p = true ↔ ∃ r, l = p ++ r := by
  unfold Lib.hasPrefix
  rw [List.isPrefixOf_iff_prefix]
  constructor
  · rintro ⟨r, hr⟩; exact ⟨r, hr.symm⟩
  · rintro ⟨r, hr⟩; exact ⟨r, hr.symm⟩
/-- A spoilt byte is told from the character 65533 by the bytes. -/
theorem spo_code (l : List UInt8) (hl : l ≠ []) : ((((dec l).1 : Nat) : Int) == 65533 && !Lib.hasPrefix l (enc 65533)) = spo l := by
  rcases mark_cases l hl with ⟨c, r, hv, rfl, hm⟩ | ⟨hs, hm⟩
  · have hs : spo (enc c ++ r) = false := (spo_false_iff _ hl).2 ⟨c, r, hv, rfl⟩
    rw [hs, dec_enc c r hv]
    have hb := (vld_iff c).1 hv
    by_cases hc : c = 65533
    · subst hc
      have : Lib.hasPrefix (enc 65533 ++ r) (enc 65533) = true := (hasPrefix_iff _ _).2 ⟨r, rfl⟩
      rw [this]; rfl
    · have : ((((c.toNat, (enc c).length).1 : Nat) : Int) == 65533) = false := by
        rw [beq_eq_false_iff_ne]; simp only; omega
      rw [this]; rfl
  · rw [hs]
    have hd : dec l = (65533, 1) := by unfold spo at hs; exact beq_iff_eq.1 hs
    have hp : Lib.hasPrefix l (enc 65533) = false := by
      cases h : Lib.hasPrefix l (enc 65533)
      · rfl
      · obtain ⟨r, hr⟩ := (hasPrefix_iff _ _).1 h
        rw [hr, dec_enc 65533 r vld_spoilt, enc_spoilt] at hd
        simp at hd
    rw [hd, hp]; rfl

/-- One step of a range over a text. -/
theorem decode_at (s : ByteArray) (pos : Nat) : Utf8.decode s pos = ((dec (s.data.toList.drop pos)).1, (mrk (s.data.toList.drop pos)).2.1) := by
  rw [decode_dec]; rfl
theorem drop_ne {s : ByteArray} {pos : Nat} (h : pos < s.size) : s.data.toList.drop pos ≠ [] := by
  intro e
  have := congrArg List.length e
  have hs : s.size = s.data.toList.length := by simp
  simp only [List.length_drop, List.length_nil] at this
  omega
theorem size_list (s : ByteArray) : s.data.toList.length = s.size := by simp
theorem marks_at (s : ByteArray) (pos : Nat) (h : pos < s.size) :
    marks (s.data.toList.drop pos) = mrk (s.data.toList.drop pos) :: marks (s.data.toList.drop (pos + (mrk (s.data.toList.drop pos)).2.1)) := by
  rw [marks_cons _ (drop_ne h), List.drop_drop]
theorem mark_at_n (s : ByteArray) (pos : Nat) (h : pos < s.size) : 1 ≤ (mrk (s.data.toList.drop pos)).2.1 ∧ pos + (mrk (s.data.toList.drop pos)).2.1 ≤ s.size := by
  have := mark_n _ (drop_ne h)
  have hl := size_list s
  simp only [List.length_drop] at this
  omega
theorem marks_end (s : ByteArray) (pos : Nat) (h : ¬ pos < s.size) : marks (s.data.toList.drop pos) = [] := by
  have hl := size_list s
  rw [List.drop_of_length_le (by omega)]; rfl

/-- Where a character's bytes begin is told from within them. -/
theorem enc_cont (c : Int) (hv : vld c = true) (i : Nat) (h1 : 1 ≤ i) (h2 : i < (enc c).length) : byt (enc c) i / 64 = 2 := by
  rcases forms c hv with ⟨_, _, e⟩ | ⟨h3, h4, e⟩ | ⟨h3, h4, _, e⟩ | ⟨h3, h4, e⟩
  · rw [e] at h2; simp at h2; omega
  · rw [e] at h2 ⊢
    match i, h1, h2 with
    | 1, _, _ => show (UInt8.ofNat (128 + c.toNat % 64)).toNat / 64 = 2; rw [u8_nat _ (by omega)]; omega
    | i + 2, _, h2 => simp at h2; omega
  · rw [e] at h2 ⊢
    match i, h1, h2 with
    | 1, _, _ => show (UInt8.ofNat (128 + c.toNat / 64 % 64)).toNat / 64 = 2; rw [u8_nat _ (by omega)]; omega
    | 2, _, _ => show (UInt8.ofNat (128 + c.toNat % 64)).toNat / 64 = 2; rw [u8_nat _ (by omega)]; omega
    | i + 3, _, h2 => simp at h2; omega
  · rw [e] at h2 ⊢
    match i, h1, h2 with
    | 1, _, _ => show (UInt8.ofNat (128 + c.toNat / 4096 % 64)).toNat / 64 = 2; rw [u8_nat _ (by omega)]; omega
    | 2, _, _ => show (UInt8.ofNat (128 + c.toNat / 64 % 64)).toNat / 64 = 2; rw [u8_nat _ (by omega)]; omega
    | 3, _, _ => show (UInt8.ofNat (128 + c.toNat % 64)).toNat / 64 = 2; rw [u8_nat _ (by omega)]; omega
    | i + 4, _, h2 => simp at h2; omega
theorem enc_head (c : Int) (hv : vld c = true) : byt (enc c) 0 / 64 ≠ 2 := by
  rcases forms c hv with ⟨_, _, e⟩ | ⟨h3, h4, e⟩ | ⟨h3, h4, _, e⟩ | ⟨h3, h4, e⟩
  · rw [e]; show (UInt8.ofNat c.toNat).toNat / 64 ≠ 2; rw [u8_nat _ (by omega)]; omega
  · rw [e]; show (UInt8.ofNat (192 + c.toNat / 64)).toNat / 64 ≠ 2; rw [u8_nat _ (by omega)]; omega
  · rw [e]; show (UInt8.ofNat (224 + c.toNat / 4096)).toNat / 64 ≠ 2; rw [u8_nat _ (by omega)]; omega
  · rw [e]; show (UInt8.ofNat (240 + c.toNat / 262144)).toNat / 64 ≠ 2; rw [u8_nat _ (by omega)]; omega

/-- What begins with no inner byte is told behind whatever stands ahead of it as alone. -/
theorem mark_front (l m : List UInt8) (hl : l ≠ []) (hm : m = [] ∨ byt m 0 / 64 ≠ 2) : mrk (l ++ m) = mrk l := by
  rcases mark_cases l hl with ⟨c, r, hv, rfl, hk⟩ | ⟨hs, hk⟩
  · rw [hk, List.append_assoc, mark_enc _ _ hv]
  · rw [hk]
    refine mark_spo _ ?_
    cases h : spo (l ++ m)
    · exfalso
      obtain ⟨c, r, hv, hr⟩ := (spo_false_iff _ (by simp [hl])).1 h
      have hsl : ¬ spo l = false := by rw [hs]; simp
      by_cases hlen : (enc c).length ≤ l.length
      · apply hsl
        rw [spo_false_iff l hl]
        refine ⟨c, l.drop (enc c).length, hv, ?_⟩
        have h2 : enc c = l.take (enc c).length := by
          have := congrArg (List.take (enc c).length) hr
          rw [List.take_left, List.take_append_of_le_length hlen] at this
          exact this.symm
        conv => lhs; rw [← List.take_append_drop (enc c).length l]
        rw [← h2]
      · have hne : m ≠ [] := by
          intro e; rw [e, List.append_nil] at hr
          have := congrArg List.length hr
          simp at this; omega
        have hb : byt (l ++ m) l.length = byt m 0 := by
          unfold byt; simp only [List.getD_eq_getElem?_getD]; rw [List.getElem?_append_right (Nat.le_refl _), Nat.sub_self]
        have hb2 : byt (enc c ++ r) l.length = byt (enc c) l.length := by
          unfold byt
          simp only [List.getD_eq_getElem?_getD]
          rw [List.getElem?_append_left (by omega)]
        have hlp : 1 ≤ l.length := List.length_pos_iff.2 hl
        have := enc_cont c hv l.length hlp (by omega)
        rw [hr, hb2] at hb
        rw [hb] at this
        rcases hm with hm | hm
        · exact hne hm
        · exact hm this
    · rfl
theorem marks_append (l m : List UInt8) (hm : m = [] ∨ byt m 0 / 64 ≠ 2) : marks (l ++ m) = marks l ++ marks m := by
  refine marks_ind (p := fun l => marks (l ++ m) = marks l ++ marks m) (by simp [marks_nil]) ?_ l
  intro l hl ih
  have hn := mark_n l hl
  rw [marks_cons (l ++ m) (by simp [hl]), mark_front l m hl hm, marks_cons l hl, List.drop_append_of_le_length hn.2.1, ih]
  rfl

/-- What Last tells. -/
def lst3 (l : List UInt8) : Int × Int × Bool := match (marks l).getLast? with
  | none => (0, 0, false)
  | some m => (m.1, (m.2.1 : Int), m.2.2)
theorem lst3_nil : lst3 [] = (0, 0, false) := rfl
theorem lst3_enc (l : List UInt8) (c : Int) (hv : vld c = true) : lst3 (l ++ enc c) = (c, ((enc c).length : Int), true) := by
  unfold lst3
  have h := marks_enc c [] hv
  rw [List.append_nil, marks_nil] at h
  rw [marks_append _ _ (.inr (enc_head c hv)), h, List.getLast?_append]
  rfl
theorem last_cases (l : List UInt8) (hl : l ≠ []) : (∃ a c, vld c = true ∧ l = a ++ enc c) ∨ lst3 l = (65533, 1, false) := by
  have key : ∀ l : List UInt8, l ≠ [] → (∃ a c, vld c = true ∧ l = a ++ enc c) ∨ (marks l).getLast? = some (65533, 1, false) := by
    intro l
    refine marks_ind (p := fun l => l ≠ [] → (∃ a c, vld c = true ∧ l = a ++ enc c) ∨ (marks l).getLast? = some (65533, 1, false)) (by simp) ?_ l
    intro l hl ih _
    rw [marks_cons l hl]
    by_cases hd : l.drop (mrk l).2.1 = []
    · rw [hd, marks_nil]
      rcases mark_cases l hl with ⟨c, r, hv, he, hk⟩ | ⟨hs, hk⟩
      · left
        rw [hk] at hd
        simp only at hd
        rw [he, List.drop_left] at hd
        exact ⟨[], c, hv, by rw [he, hd]; simp⟩
      · right; rw [hk]; rfl
    · rcases ih hd with ⟨a, c, hv, he⟩ | he
      · left
        refine ⟨l.take (mrk l).2.1 ++ a, c, hv, ?_⟩
        rw [List.append_assoc, ← he, List.take_append_drop]
      · right
        rw [List.getLast?_cons, he]; rfl
  rcases key l hl with h | h
  · exact .inl h
  · right; unfold lst3; rw [h]; rfl

/-- First of a text tells it whole just if it is a character's bytes. -/
theorem fst3_whole (l : List UInt8) (n : Nat) (hn : l.length = n) (h1 : 1 ≤ n) (h : (fst3 l).2.2 = true) (h2 : (fst3 l).2.1 = (n : Int)) :
    ∃ c, vld c = true ∧ l = enc c ∧ (fst3 l).1 = c := by
  have hl : l ≠ [] := by intro e; rw [e] at hn; simp at hn; omega
  unfold fst3 at h h2 ⊢
  rw [if_neg hl] at h h2 ⊢
  rcases mark_cases l hl with ⟨c, r, hv, he, hk⟩ | ⟨hs, hk⟩
  · rw [hk] at h2 ⊢
    simp only at h2
    refine ⟨c, hv, ?_, rfl⟩
    have hr : r = [] := by
      apply List.eq_nil_of_length_eq_zero
      have := congrArg List.length he
      simp at this; omega
    rw [he, hr]; simp
  · rw [hk] at h; simp at h
theorem fst3_enc (c : Int) (hv : vld c = true) : fst3 (enc c) = (c, ((enc c).length : Int), true) := by
  have hne : enc c ≠ [] := by have := enc_ne c [] hv; simpa using this
  unfold fst3
  have h := mark_enc c [] hv
  rw [List.append_nil] at h
  rw [if_neg hne, h]

/-- No character that ends the text has more than k bytes. -/
def noLonger (l : List UInt8) (k : Nat) : Prop := ∀ c a, vld c = true → l = a ++ enc c → (enc c).length ≤ k
theorem noLonger_start (l : List UInt8) : noLonger l (min 4 l.length) := by
  intro c a hv h
  have h1 := enc_length c hv
  have h2 := congrArg List.length h
  simp at h2; omega
theorem noLonger_zero (l : List UInt8) (hl : l ≠ []) (h : noLonger l 0) : lst3 l = (65533, 1, false) := by
  rcases last_cases l hl with ⟨a, c, hv, e⟩ | e
  · have := h c a hv e
    have := enc_length c hv
    omega
  · exact e
theorem drop_tail (l a : List UInt8) (c : Int) (h : l = a ++ enc c) : l.drop (l.length - (enc c).length) = enc c := by
  rw [h, List.length_append, Nat.add_sub_cancel, List.drop_left]
theorem noLonger_step (l : List UInt8) (k : Nat) (hk : k + 1 ≤ l.length) (h : noLonger l (k + 1))
    (hx : ¬ ((fst3 (l.drop (l.length - (k + 1)))).2.2 = true ∧ (fst3 (l.drop (l.length - (k + 1)))).2.1 = ((k + 1 : Nat) : Int))) : noLonger l k := by
  intro c a hv e
  have h1 := h c a hv e
  rcases Nat.lt_or_ge (enc c).length (k + 1) with h2 | h2
  · omega
  · exfalso
    apply hx
    have h3 : (enc c).length = k + 1 := by omega
    rw [← h3, drop_tail l a c e, fst3_enc c hv]
    exact ⟨rfl, rfl⟩
theorem last_found (l : List UInt8) (k : Nat) (hk : k + 1 ≤ l.length)
    (h1 : (fst3 (l.drop (l.length - (k + 1)))).2.2 = true) (h2 : (fst3 (l.drop (l.length - (k + 1)))).2.1 = ((k + 1 : Nat) : Int)) :
    lst3 l = ((fst3 (l.drop (l.length - (k + 1)))).1, ((k + 1 : Nat) : Int), true) := by
  have hlen : (l.drop (l.length - (k + 1))).length = k + 1 := by simp; omega
  obtain ⟨c, hv, e, hc⟩ := fst3_whole _ (k + 1) hlen (by omega) h1 h2
  rw [hc]
  have e2 : l = l.take (l.length - (k + 1)) ++ enc c := by rw [← e, List.take_append_drop]
  rw [e] at hlen
  conv => lhs; rw [e2]
  rw [lst3_enc _ c hv, hlen]

/-- What bytes are worth, if they are a character's. -/
def val : List UInt8 → Int
  | [a] => (a.toNat : Int)
  | [a, b] => ((a.toNat : Int) - 192) * 64 + (b.toNat : Int) - 128
  | [a, b, c] => (((a.toNat : Int) - 224) * 64 + (b.toNat : Int) - 128) * 64 + (c.toNat : Int) - 128
  | [a, b, c, d] => ((((a.toNat : Int) - 240) * 64 + (b.toNat : Int) - 128) * 64 + (c.toNat : Int) - 128) * 64 + (d.toNat : Int) - 128
  | _ => 0
theorem val_enc (c : Int) (hv : vld c = true) : val (enc c) = c := by
  rcases forms c hv with ⟨h0, h1, e⟩ | ⟨h0, h1, e⟩ | ⟨h0, h1, h2, e⟩ | ⟨h0, h1, e⟩
  · rw [e, val, u8_nat _ (by omega)]; omega
  · rw [e, val, u8_nat _ (by omega), u8_nat _ (by omega)]; omega
  · rw [e, val, u8_nat _ (by omega), u8_nat _ (by omega), u8_nat _ (by omega)]; omega
  · rw [e, val, u8_nat _ (by omega), u8_nat _ (by omega), u8_nat _ (by omega), u8_nat _ (by omega)]; omega
theorem val_bd (l : List UInt8) : -9223372036854775808 ≤ val l ∧ val l ≤ 9223372036854775807 := by
  unfold val
  split
  · rename_i a; have := a.toNat_lt; omega
  · rename_i a b; have := a.toNat_lt; have := b.toNat_lt; omega
  · rename_i a b c; have := a.toNat_lt; have := b.toNat_lt; have := c.toNat_lt; omega
  · rename_i a b c d; have := a.toNat_lt; have := b.toNat_lt; have := c.toNat_lt; have := d.toNat_lt; omega
  · omega
/-- No character at a text's front has fewer than k bytes. -/
def noFront (l : List UInt8) (k : Nat) : Prop := ∀ c r, vld c = true → l = enc c ++ r → k ≤ (enc c).length
theorem noFront_start (l : List UInt8) : noFront l 1 := fun c _ hv _ => (enc_length c hv).1
theorem encB_take {l : List UInt8} {k : Nat} {c : Int} (hk : 1 ≤ k) (hl : k ≤ l.length) (h : (encB c).data.toList = l.take k) : vld c = true ∧ enc c = l.take k := by
  cases hv : vld c
  · exfalso
    unfold encB at h
    rw [if_neg (by simp [hv])] at h
    have := congrArg List.length h
    simp at this; omega
  · rw [encB_list c hv] at h; exact ⟨rfl, h⟩
theorem front_found (l : List UInt8) (k : Nat) (hk : 1 ≤ k) (hl : k ≤ l.length) (h : (encB (val (l.take k))).data.toList = l.take k) :
    fst3 l = (val (l.take k), (k : Int), true) := by
  obtain ⟨hv, he⟩ := encB_take hk hl h
  have hne : l ≠ [] := by intro e; rw [e] at hl; simp at hl; omega
  have h2 : l = enc (val (l.take k)) ++ l.drop k := by
    conv => lhs; rw [← List.take_append_drop k l]
    rw [he]
  have hlen : (enc (val (l.take k))).length = k := by rw [he]; simp; omega
  have hm := mrk_enc' hv h2
  unfold fst3
  rw [if_neg hne, hm, hlen]
theorem noFront_step (l : List UInt8) (k : Nat) (h : noFront l k) (hx : (encB (val (l.take k))).data.toList ≠ l.take k) : noFront l (k + 1) := by
  intro c r hv e
  have h1 := h c r hv e
  rcases Nat.lt_or_ge k (enc c).length with h2 | h2
  · omega
  · exfalso
    apply hx
    have h3 : (enc c).length = k := by omega
    have h4 : l.take k = enc c := by rw [e, ← h3, List.take_left]
    rw [h4, val_enc c hv, encB_list c hv]
theorem noFront_end (l : List UInt8) (k : Nat) (hl : l ≠ []) (h : noFront l k) (hk : 4 < k ∨ l.length < k) : fst3 l = (65533, 1, false) := by
  unfold fst3
  rw [if_neg hl]
  rcases mark_cases l hl with ⟨c, r, hv, e, _⟩ | ⟨_, hm⟩
  · exfalso
    have h1 := h c r hv e
    have h2 := enc_length c hv
    have h3 := congrArg List.length e
    simp at h3
    omega
  · rw [hm]; simp

theorem one_length (c : Int) : (one c).length ≤ 4 := by
  unfold one
  split
  · exact (enc_length c (by assumption)).2
  · rw [enc_spoilt]; simp
theorem joinL_length (l : List Int) : (joinL l).length ≤ 4 * l.length := by
  induction l with
  | nil => simp [joinL]
  | cons c r ih =>
    have := one_length c
    unfold joinL at *
    simp only [List.flatMap_cons, List.length_append, List.length_cons]; omega
theorem joinL_take (l : List Int) (k : Nat) (h : k < l.length) : joinL (l.take (k + 1)) = joinL (l.take k) ++ one (l.getD k 0) := by
  rw [List.take_succ_eq_append_getElem h]
  unfold joinL
  rw [List.flatMap_append, List.getD_eq_getElem?_getD, List.getElem?_eq_getElem h]
  simp
theorem one_enc {c : Int} (hv : vld c = true) : one c = (encB c).data.toList := by unfold one; rw [if_pos hv, encB_list c hv]
theorem one_spoilt {c : Int} (hv : vld c = false) : one c = (encB 65533).data.toList := by unfold one; rw [if_neg (by simp [hv]), encB_list _ vld_spoilt]
theorem encB_empty {c : Int} (hv : vld c = false) : (encB c).data.toList = [] := by unfold encB; rw [if_neg (by simp [hv])]
theorem encB_some {c : Int} (hv : vld c = true) : (encB c).data.toList ≠ [] := by
  rw [encB_list c hv]; have := enc_ne c [] hv; simpa using this
theorem encB_size (c : Int) : (encB c).size ≤ 4 := by
  cases hv : vld c
  · have := encB_empty hv
    have h := size_list (encB c)
    rw [this] at h; simp at h; omega
  · have h := size_list (encB c)
    rw [encB_list c hv] at h
    have := enc_length c hv
    omega

theorem allL_vld (l : List UInt8) : ∀ c ∈ allL l, vld c = true := by
  refine marks_ind (p := fun l => ∀ c ∈ allL l, vld c = true) (by simp [allL, marks_nil]) ?_ l
  intro l hl ih c hc
  unfold allL at hc ih
  rw [marks_cons l hl, List.map_cons, List.mem_cons] at hc
  rcases hc with rfl | hc
  · exact dec_c l hl
  · exact ih c hc
/-- What is joined is told again, character by character, whatever stands behind. -/
theorem marks_join (xs : List Int) (r : List UInt8) (h : ∀ c ∈ xs, vld c = true) : marks (joinL xs ++ r) = xs.map (fun c => (c, (enc c).length, true)) ++ marks r := by
  induction xs with
  | nil => simp [joinL]
  | cons c xs ih =>
    have hc := h c (by simp)
    have e : joinL (c :: xs) ++ r = enc c ++ (joinL xs ++ r) := by
      unfold joinL
      rw [List.flatMap_cons, one, if_pos hc, List.append_assoc]
    rw [e, marks_enc c _ hc, ih (fun d hd => h d (by simp [hd]))]
    rfl
theorem marks_join0 (xs : List Int) (h : ∀ c ∈ xs, vld c = true) : marks (joinL xs) = xs.map (fun c => (c, (enc c).length, true)) := by
  have := marks_join xs [] h
  rw [List.append_nil, marks_nil, List.append_nil] at this
  exact this
theorem allL_join (xs : List Int) (h : ∀ c ∈ xs, vld c = true) : allL (joinL xs) = xs := by
  unfold allL; rw [marks_join0 xs h, List.map_map]
  exact List.map_id' xs
theorem okL_join (xs : List Int) (h : ∀ c ∈ xs, vld c = true) : okL (joinL xs) = true := by
  unfold okL; rw [marks_join0 xs h]; simp
theorem len_join (xs : List Int) (h : ∀ c ∈ xs, vld c = true) : (marks (joinL xs)).length = xs.length := by
  rw [marks_join0 xs h]; simp
/-- A text without spoilt bytes is its characters' bytes. -/
theorem join_ok (l : List UInt8) (h : okL l = true) : joinL (allL l) = l := by
  revert h
  refine marks_ind (p := fun l => okL l = true → joinL (allL l) = l) (fun _ => rfl) ?_ l
  intro l hl ih h
  unfold okL at h ih
  rw [marks_cons l hl, List.all_cons, Bool.and_eq_true] at h
  rcases mark_cases l hl with ⟨c, r, hv, he, hk⟩ | ⟨_, hk⟩
  · have hd : l.drop (mrk l).2.1 = r := by rw [hk, he]; simp
    have := ih h.2
    rw [hd] at this
    unfold joinL allL at this ⊢
    rw [marks_cons l hl, hd, List.map_cons, List.flatMap_cons, this, hk, he]
    rw [one, if_pos hv]
  · rw [hk] at h; simp at h
/-- What is joined of any numbers is joined of characters. -/
def fix (c : Int) : Int := if vld c = true then c else 65533
theorem fix_vld (c : Int) : vld (fix c) = true := by
  unfold fix; split
  · assumption
  · exact vld_spoilt
theorem one_fix (c : Int) : one (fix c) = one c := by
  cases hv : vld c
  · have h1 : fix c = 65533 := by unfold fix; rw [if_neg (by simp [hv])]
    have h2 : one c = enc 65533 := by unfold one; rw [if_neg (by simp [hv])]
    rw [h1, h2]; unfold one; rw [if_pos vld_spoilt]
  · unfold fix; rw [if_pos hv]
theorem joinL_fix (xs : List Int) : joinL (xs.map fix) = joinL xs := by
  unfold joinL
  induction xs with
  | nil => rfl
  | cons c xs ih => rw [List.map_cons, List.flatMap_cons, List.flatMap_cons, ih, one_fix]
theorem okL_joinL (xs : List Int) : okL (joinL xs) = true := by
  rw [← joinL_fix]
  refine okL_join _ fun c hc => ?_
  obtain ⟨d, _, rfl⟩ := List.mem_map.1 hc
  exact fix_vld d

end Go.Proofs.YtglljkbpdbnhaaaGreatDoor.Um

set_option linter.unusedVariables false
set_option linter.unusedSimpArgs false
namespace Go.Proofs.YtglljkbpdbnhaaaGreatDoor.Cm

/-- A row of the table. -/
def rowK : Nat → List (Int × Int)
  | 1 => [(13, 13)]
  | 2 => [(10, 10)]
  | 3 => [(0, 9), (11, 12), (14, 31), (127, 159), (173, 173), (8203, 8203), (8206, 8207), (8232, 8238), (8288, 8303), (65279, 65279), (65520, 65531), (917504, 917535)]
  | 4 => [(768, 879), (1155, 1161), (1425, 1469), (1552, 1562), (1611, 1631), (1648, 1648), (2364, 2364), (2369, 2376), (2381, 2381), (8204, 8204), (8400, 8432), (12330, 12335), (12441, 12442), (65024, 65039), (65056, 65071), (127995, 127999), (917536, 917631), (917760, 917999)]
  | 5 => [(8205, 8205)]
  | 6 => [(127462, 127487)]
  | 7 => [(1536, 1541), (1757, 1757), (1807, 1807), (2274, 2274)]
  | 8 => [(2307, 2307), (2363, 2363), (2366, 2368), (2377, 2380), (2434, 2435), (3635, 3635), (3763, 3763)]
  | 9 => [(4352, 4447), (43360, 43388)]
  | 10 => [(4448, 4519), (55216, 55238)]
  | 11 => [(4520, 4607), (55243, 55291)]
  | 14 => [(169, 169), (174, 174), (8252, 8252), (8265, 8265), (8482, 8482), (8505, 8505), (8596, 8601), (8986, 8987), (9728, 9732), (9989, 9989), (10084, 10084), (127744, 127994), (128000, 128591), (128640, 128767), (129280, 129535)]
  | _ => []
/-- Whether a range holds a character. -/
def inR (c : Int) (r : Int × Int) : Bool := decide (r.1 ≤ c) && decide (c ≤ r.2)
/-- Whether a row holds it. -/
def anyK (c : Int) (k : Nat) : Bool := (rowK k).any (inR c)
/-- A character's class. -/
def cls (c : Int) : Nat :=
  if 44032 ≤ c ∧ c ≤ 55203 then (if (c - 44032) % 28 = 0 then 12 else 13)
  else ((List.range 15).find? (anyK c)).getD 0

/-- The row of whatever number. -/
def rowZ (k : Int) : List (Int × Int) := if 0 ≤ k then rowK k.toNat else []
theorem rowZ_nat (k : Nat) : rowZ k = rowK k := by unfold rowZ; rw [if_pos (by omega)]; rfl
theorem rowK_none {k : Nat} (h : ¬ (1 ≤ k ∧ k ≤ 11) ∧ ¬ k = 14) : rowK k = [] := by
  unfold rowK
  split <;> first | rfl | omega
theorem rowZ_none {k : Int} (h : ¬ (1 ≤ k ∧ k ≤ 11) ∧ ¬ k = 14) : rowZ k = [] := by
  unfold rowZ
  split
  · exact rowK_none (by omega)
  · rfl
theorem rowZ_len (k : Int) : (rowZ k).length ≤ 18 := by
  by_cases h : ¬ (1 ≤ k ∧ k ≤ 11) ∧ ¬ k = 14
  · rw [rowZ_none h]; simp
  · have : k = 1 ∨ k = 2 ∨ k = 3 ∨ k = 4 ∨ k = 5 ∨ k = 6 ∨ k = 7 ∨ k = 8 ∨ k = 9 ∨ k = 10 ∨ k = 11 ∨ k = 14 := by omega
    rcases this with rfl | rfl | rfl | rfl | rfl | rfl | rfl | rfl | rfl | rfl | rfl | rfl <;> decide +kernel

/-- A syllable of Hangul. -/
def syll (c : Int) : Prop := 44032 ≤ c ∧ c ≤ 55203
theorem cls_lv {c : Int} (h : syll c) (h0 : (c - 44032) % 28 = 0) : cls c = 12 := by
  unfold cls; exact (if_pos h).trans (if_pos h0)
theorem cls_lvt {c : Int} (h : syll c) (h0 : ¬ (c - 44032) % 28 = 0) : cls c = 13 := by
  unfold cls; exact (if_pos h).trans (if_neg h0)
theorem cls_neg {c : Int} (h : ¬ syll c) : cls c = ((List.range 15).find? (anyK c)).getD 0 := by unfold cls; exact if_neg h
theorem cls_at {c : Int} {j : Nat} (hs : ¬ syll c) (hj : j < 15) (h0 : ∀ m, m < j → anyK c m = false) (h1 : anyK c j = true) : cls c = j := by
  rw [cls_neg hs]
  have : (List.range 15).find? (anyK c) = some j := by
    rw [List.find?_eq_some_iff_getElem]
    refine ⟨h1, j, by simpa using hj, by simp, fun m hm => ?_⟩
    simp [h0 m hm]
  rw [this]; rfl
theorem cls_no {c : Int} (hs : ¬ syll c) (h0 : ∀ m, m < 15 → anyK c m = false) : cls c = 0 := by
  rw [cls_neg hs]
  have : (List.range 15).find? (anyK c) = none := by
    rw [List.find?_eq_none]
    intro m hm
    simp [h0 m (by simpa using hm)]
  rw [this]; rfl
theorem cls_le (c : Int) : cls c ≤ 14 := by
  by_cases h : syll c
  · by_cases h0 : (c - 44032) % 28 = 0
    · rw [cls_lv h h0]; omega
    · rw [cls_lvt h h0]; omega
  · rw [cls_neg h]
    cases hf : (List.range 15).find? (anyK c) with
    | none => simp
    | some j =>
      have := List.mem_of_find?_eq_some hf
      simp at this
      simp; omega

/-- The table of the document's own answer: first, last, class. -/
def tab : List (Int × Int × Int) := (List.range 15).flatMap fun k => (rowK k).map fun r => (r.1, r.2, (k : Int))
theorem tab_len : tab.length = 66 := by decide +kernel
def inT (c : Int) (r : Int × Int × Int) : Bool := inR c (r.1, r.2.1)
theorem find_tab (c : Int) (ks : List Nat) :
    ((ks.flatMap fun k => (rowK k).map fun r => (r.1, r.2, (k : Int))).find? (inT c)).map (·.2.2) = (ks.find? (anyK c)).map (Nat.cast : Nat → Int) := by
  induction ks with
  | nil => rfl
  | cons k ks ih =>
    rw [List.flatMap_cons, List.find?_append, List.find?_cons]
    have hm : ∀ l : List (Int × Int), ((l.map fun r => (r.1, r.2, (k : Int))).find? (inT c)).map (·.2.2) = if l.any (inR c) then some (k : Int) else none := by
      intro l
      induction l with
      | nil => rfl
      | cons r l il =>
        rw [List.map_cons, List.find?_cons, List.any_cons]
        have e : inT c (r.1, r.2, (k : Int)) = inR c r := rfl
        rw [e]
        cases inR c r
        · exact il
        · rfl
    have hk := hm (rowK k)
    show _ = Option.map _ (match (rowK k).any (inR c) with | true => some k | false => ks.find? (anyK c))
    cases ha : (rowK k).any (inR c)
    · rw [ha] at hk
      simp only [Bool.false_eq_true, if_false, Option.map_eq_none_iff] at hk
      rw [hk]
      simpa using ih
    · rw [ha] at hk
      simp only [if_true] at hk
      cases hf : ((rowK k).map fun r => (r.1, r.2, (k : Int))).find? (inT c) with
      | none => rw [hf] at hk; cases hk
      | some x => rw [hf] at hk; simpa using hk
theorem tab_cls {c : Int} (hs : ¬ syll c) : (((tab.find? (inT c)).map (·.2.2)).getD 0) = (cls c : Int) := by
  unfold tab; rw [find_tab]
  rw [cls_neg hs]
  cases (List.range 15).find? (anyK c) <;> rfl
theorem tab_at {c : Int} {j : Nat} (hs : ¬ syll c) (hj : j < 66) (h0 : (tab.take j).any (inT c) = false) (h1 : inT c (tab.getD j (0, 0, 0)) = true) : (tab.getD j (0, 0, 0)).2.2 = (cls c : Int) := by
  have hl : j < tab.length := by rw [tab_len]; exact hj
  have hg : tab.getD j (0, 0, 0) = tab[j] := by rw [List.getD_eq_getElem?_getD, List.getElem?_eq_getElem hl]; rfl
  have : tab.find? (inT c) = some (tab.getD j (0, 0, 0)) := by
    rw [List.find?_eq_some_iff_getElem]
    refine ⟨h1, j, hl, hg.symm, fun m hm => ?_⟩
    have := (List.any_eq_false.1 h0) (tab[m]'(by omega)) (by rw [List.mem_take_iff_getElem]; exact ⟨m, by omega, rfl⟩)
    simpa using this
  rw [← tab_cls hs, this]; rfl
theorem tab_no {c : Int} (hs : ¬ syll c) (h0 : tab.any (inT c) = false) : cls c = 0 := by
  have : tab.find? (inT c) = none := by
    rw [List.find?_eq_none]
    intro x hx
    have := (List.any_eq_false.1 h0) x hx
    simpa using this
  have h := tab_cls hs
  rw [this] at h
  have : (0 : Int) = (cls c : Int) := h
  omega

theorem tab_bd (j : Nat) : 0 ≤ (tab.getD j (0, 0, 0)).1 ∧ (tab.getD j (0, 0, 0)).1 ≤ 917999 ∧ 0 ≤ (tab.getD j (0, 0, 0)).2.1 ∧ (tab.getD j (0, 0, 0)).2.1 ≤ 917999 ∧ (tab.getD j (0, 0, 0)).1 ≤ (tab.getD j (0, 0, 0)).2.1 ∧ 0 ≤ (tab.getD j (0, 0, 0)).2.2 ∧ (tab.getD j (0, 0, 0)).2.2 ≤ 14 := by
  have h : tab.all (fun r => decide (0 ≤ r.1) && decide (r.1 ≤ 917999) && decide (0 ≤ r.2.1) && decide (r.2.1 ≤ 917999) && decide (r.1 ≤ r.2.1) && decide (0 ≤ r.2.2) && decide (r.2.2 ≤ 14)) = true := by decide +kernel
  rw [List.getD_eq_getElem?_getD]
  by_cases hj : j < tab.length
  · rw [List.getElem?_eq_getElem hj]
    have := (List.all_eq_true.1 h) tab[j] (List.getElem_mem hj)
    simp only [Bool.and_eq_true, decide_eq_true_eq] at this
    exact ⟨this.1.1.1.1.1.1, this.1.1.1.1.1.2, this.1.1.1.1.2, this.1.1.1.2, this.1.1.2, this.1.2, this.2⟩
  · rw [List.getElem?_eq_none (by omega)]; decide
/-- A character at a range's edge, or beside it. -/
def edge (n side : Int) : Int :=
  let r := tab.getD (Um.around n 66).toNat (0, 0, 0)
  if side.tmod 4 = 0 then r.1 else if side.tmod 4 = 1 ∨ side.tmod 4 = -1 then r.2.1 else if side.tmod 4 = 2 ∨ side.tmod 4 = -2 then r.1 - 1 else r.2.1 + 1
theorem edge_bd (n side : Int) : -1 ≤ edge n side ∧ edge n side ≤ 918000 := by
  have := tab_bd (Um.around n 66).toNat
  unfold edge
  simp only
  split
  · omega
  · split
    · omega
    · split <;> omega

/-- The blanks. -/
def blanks : List Int := [9, 10, 11, 12, 13, 32, 160, 8201, 8239]
def blankB (c : Int) : Bool := blanks.contains c
/-- Plain, so far. -/
def plP (l : List Int) : Bool := (l.all fun c => cls c == 0 || cls c == 4) && (match l with | [] => true | c :: _ => cls c == 0)
def plainB (l : List Int) : Bool := plP l && decide (0 < l.length)
theorem plP_snoc (l : List Int) (c : Int) : plP (l ++ [c]) = (plP l && (cls c == 0 || (cls c == 4 && decide (0 < l.length)))) := by
  cases l with
  | nil =>
    simp only [plP, List.nil_append, List.all_cons, List.all_nil]
    cases (cls c == 0) <;> cases (cls c == 4) <;> simp
  | cons d r =>
    simp only [plP, List.cons_append, List.all_cons, List.all_append, List.all_nil, List.length_cons]
    have : decide (0 < r.length + 1) = true := by simp
    rw [this]
    cases (cls c == 0) <;> cases (cls c == 4) <;> cases (cls d == 0) <;> cases (cls d == 4) <;> cases (r.all fun c => cls c == 0 || cls c == 4) <;> rfl
theorem plP_take (l : List Int) (j : Nat) (h : j < l.length) : plP (l.take (j + 1)) = (plP (l.take j) && (cls (l.getD j 0) == 0 || (cls (l.getD j 0) == 4 && decide (0 < j)))) := by
  rw [List.take_succ_eq_append_getElem h, plP_snoc, List.getD_eq_getElem?_getD, List.getElem?_eq_getElem h]
  have : (l.take j).length = j := by rw [List.length_take]; omega
  rw [this]; rfl
theorem plP_false_take (l : List Int) (j : Nat) (h : plP (l.take j) = false) : plP l = false := by
  have e : l = l.take j ++ l.drop j := (List.take_append_drop j l).symm
  generalize l.take j = a at *
  generalize l.drop j = b at *
  subst e
  cases a with
  | nil => simp [plP] at h
  | cons d r =>
    simp only [plP, List.cons_append, List.all_cons, List.all_append] at h ⊢
    cases h1 : (cls d == 0) <;> cases h2 : (cls d == 4) <;> cases h3 : (r.all fun c => cls c == 0 || cls c == 4) <;> simp_all

/-- The characters that a plain list is made of. -/
def chrP (i : Nat) (x : Int) : Int := if 25 < Um.around x 60 ∧ 0 < i then 768 + Um.around x 60 else 65 + Um.around x 60 % 26
def plG (i : Nat) : List Int → List Int
  | [] => []
  | x :: r => chrP i x :: plG (i + 1) r
theorem plG_length (i : Nat) (l : List Int) : (plG i l).length = l.length := by
  induction l generalizing i with
  | nil => rfl
  | cons x r ih => simp [plG, ih]
theorem plG_app (i : Nat) (a b : List Int) : plG i (a ++ b) = plG i a ++ plG (i + a.length) b := by
  induction a generalizing i with
  | nil => simp [plG]
  | cons x r ih => simp only [List.cons_append, plG, ih, List.length_cons]; rw [show i + 1 + r.length = i + (r.length + 1) from by omega]
theorem plG_take (l : List Int) (j : Nat) (h : j < l.length) : plG 0 (l.take (j + 1)) = plG 0 (l.take j) ++ [chrP j (l.getD j 0)] := by
  rw [List.take_succ_eq_append_getElem h, plG_app, List.getD_eq_getElem?_getD, List.getElem?_eq_getElem h]
  have : (l.take j).length = j := by rw [List.length_take]; omega
  rw [this]; simp [plG]
theorem cls_letters : ∀ n : Nat, n < 26 → cls (65 + (n : Int)) = 0 := by decide +kernel
theorem cls_marks : ∀ n : Nat, n < 34 → cls (794 + (n : Int)) = 4 := by decide +kernel
theorem chrP_cls (i : Nat) (x : Int) : cls (chrP i x) = 0 ∨ (0 < i ∧ cls (chrP i x) = 4) := by
  have hb := Um.around_bd x 60 (by omega)
  unfold chrP
  split
  · rename_i h
    refine .inr ⟨h.2, ?_⟩
    have := cls_marks (Um.around x 60 - 26).toNat (by omega)
    rw [show (794 : Int) + ((Um.around x 60 - 26).toNat : Int) = 768 + Um.around x 60 from by omega] at this
    exact this
  · refine .inl ?_
    have := cls_letters (Um.around x 60 % 26).toNat (by omega)
    rw [show (65 : Int) + ((Um.around x 60 % 26).toNat : Int) = 65 + Um.around x 60 % 26 from by omega] at this
    exact this
theorem plG_all (i : Nat) (l : List Int) : (plG i l).all (fun c => cls c == 0 || cls c == 4) = true := by
  induction l generalizing i with
  | nil => rfl
  | cons x r ih =>
    simp only [plG, List.all_cons, ih, Bool.and_true]
    rcases chrP_cls i x with h | ⟨_, h⟩ <;> simp [h]
theorem plG_head (x : Int) (r : List Int) : (cls (chrP 0 x) == 0) = true := by
  rcases chrP_cls 0 x with h | ⟨h, _⟩
  · simp [h]
  · omega
theorem plP_two (a b : List Int) : plP (plG 0 a ++ plG 0 b) = true := by
  unfold plP
  rw [List.all_append, plG_all, plG_all]
  cases a with
  | nil =>
    cases b with
    | nil => rfl
    | cons x r => simpa [plG] using plG_head x r
  | cons x r => simpa [plG] using plG_head x r
theorem plP_begin (a : List Int) (j : Nat) : plP ((plG 0 a).take j) = true := by
  cases h : plP ((plG 0 a).take j)
  · have h1 := plP_false_take _ _ h
    have h2 := plP_two a []
    simp [plG] at h2
    rw [h1] at h2; cases h2
  · rfl
theorem plainB_two (a b : List Int) : plainB (plG 0 a ++ plG 0 b) = decide (0 < (plG 0 a ++ plG 0 b).length) := by
  unfold plainB; rw [plP_two]; rfl
theorem plainB_begin (a : List Int) (j : Nat) (h : j ≤ a.length) : plainB ((plG 0 a).take j) = decide (0 < j) := by
  unfold plainB; rw [plP_begin, List.length_take, plG_length, Nat.min_eq_left h]; rfl

end Go.Proofs.YtglljkbpdbnhaaaGreatDoor.Cm

set_option linter.unusedVariables false
set_option linter.unusedSimpArgs false
namespace Go.Proofs.YtglljkbpdbnhaaaGreatDoor.Gm
open Um Cm

/-- What is remembered: the class of what came last (-1: nothing came); whether a Picto and any number of Extends came last; whether one ZWJ behind them; whether an odd number of Regionals. -/
structure St where
  k : Int
  d : Bool
  s : Bool
  o : Bool
def st0 : St := ⟨-1, false, false, false⟩
def alB (k : Int) : Bool := decide (k = 3) || decide (k = 1) || decide (k = 2)
def sylB (a k : Int) : Bool :=
  if a = 9 then decide (k = 9) || decide (k = 10) || decide (k = 12) || decide (k = 13)
  else if a = 12 ∨ a = 10 then decide (k = 10) || decide (k = 11)
  else if a = 13 ∨ a = 11 then decide (k = 11) else false
def pairB (a k : Int) : Bool :=
  if a = -1 then false else if a = 1 ∧ k = 2 then true else if alB a = true ∨ alB k = true then false
  else if k = 4 ∨ k = 5 ∨ k = 8 then true else if a = 7 then true else sylB a k
def stp (t : St) (k : Int) : St := ⟨k, decide (k = 14) || (t.d && decide (k = 4)), t.d && decide (k = 5), decide (k = 6) && !t.o⟩
def jn (t : St) (k : Int) : Bool := pairB t.k k || (t.s && decide (k = 14)) || (t.o && decide (k = 6))

/-- The state behind classes, the last one first. -/
def stR : List Nat → St
  | [] => st0
  | k :: r => stp (stR r) k
/-- The state behind characters. -/
def stL (l : List Int) : St := l.foldl (fun t c => stp t (cls c)) st0
theorem stL_snoc (l : List Int) (c : Int) : stL (l ++ [c]) = stp (stL l) (cls c) := by simp [stL]
theorem stL_rev (l : List Int) : stL l = stR (l.map cls).reverse := by
  have h : ∀ r : List Int, stL r.reverse = stR (r.map cls) := by
    intro r
    induction r with
    | nil => rfl
    | cons c r ih => rw [List.reverse_cons, stL_snoc, ih]; rfl
  have := h l.reverse
  rw [List.reverse_reverse] at this
  rw [this, List.map_reverse]

theorem stR_d (r : List Nat) : (stR r).d = decide ((r.dropWhile (· == 4)).head? = some 14) := by
  induction r with
  | nil => rfl
  | cons k r ih =>
    show (decide ((k : Int) = 14) || ((stR r).d && decide ((k : Int) = 4))) = _
    rw [ih]
    by_cases h : k = 4
    · subst h; simp
    · have h1 : ((k : Int) = 4) = False := by simp; omega
      rw [List.dropWhile_cons_of_neg (by simpa using h)]
      simp only [h1, decide_false, Bool.and_false, Bool.or_false, List.head?_cons, Option.some.injEq]
      rw [decide_eq_decide]; omega
theorem stR_o (r : List Nat) : (stR r).o = decide ((r.takeWhile (· == 6)).length % 2 = 1) := by
  induction r with
  | nil => rfl
  | cons k r ih =>
    show (decide ((k : Int) = 6) && !(stR r).o) = _
    rw [ih]
    by_cases h : k = 6
    · subst h
      rw [List.takeWhile_cons_of_pos (by simp), List.length_cons]
      rw [show decide (((6 : Nat) : Int) = 6) = true from rfl, Bool.true_and]
      rw [Bool.eq_iff_iff]; simp; omega
    · have h1 : ((k : Int) = 6) = False := by simp; omega
      rw [List.takeWhile_cons_of_neg (by simpa using h)]
      simp [h1]
/-- The document's rules over classes, the last one first. -/
def refR : List Nat → Int → Bool
  | [], _ => false
  | a :: r, k => if a = 1 ∧ k = 2 then true else if alB a = true ∨ alB k = true then false
    else if sylB a k = true ∨ k = 4 ∨ k = 5 ∨ k = 8 ∨ a = 7 then true
    else if a = 5 ∧ k = 14 then decide ((r.dropWhile (· == 4)).head? = some 14)
    else decide (k = 6) && decide (((a :: r).takeWhile (· == 6)).length % 2 = 1)
theorem stR_inv (r : List Nat) : ((stR r).d = true → (stR r).k = 14 ∨ (stR r).k = 4) ∧ ((stR r).s = true → (stR r).k = 5) ∧ ((stR r).o = true → (stR r).k = 6) := by
  cases r with
  | nil => simp [stR, st0]
  | cons k r =>
    refine ⟨fun h => ?_, fun h => ?_, fun h => ?_⟩
    · have h' : (decide ((k : Int) = 14) || ((stR r).d && decide ((k : Int) = 4))) = true := h
      show (k : Int) = 14 ∨ (k : Int) = 4
      simp at h'; omega
    · have h' : ((stR r).d && decide ((k : Int) = 5)) = true := h
      show (k : Int) = 5
      simp at h'; omega
    · have h' : (decide ((k : Int) = 6) && !(stR r).o) = true := h
      show (k : Int) = 6
      simp at h'; omega
theorem jn_ref (r : List Nat) (k : Int) : jn (stR r) k = refR r k := by
  cases r with
  | nil => simp [jn, stR, st0, refR, pairB]
  | cons a r =>
    have hk : (stR (a :: r)).k = (a : Int) := rfl
    have hs : (stR (a :: r)).s = ((stR r).d && decide ((a : Int) = 5)) := rfl
    have ho := stR_o (a :: r)
    have hi := (stR_inv (a :: r)).2.2
    have hd := stR_d r
    unfold jn
    rw [hk, hs]
    unfold refR pairB
    rw [if_neg (by omega)]
    rw [hk] at hi
    have e1 : ((a : Int) = 1 ∧ k = 2) = (a = 1 ∧ k = 2) := by rw [eq_iff_iff]; omega
    simp only [e1]
    by_cases c1 : a = 1 ∧ k = 2
    · rw [if_pos c1, if_pos c1]; rfl
    · rw [if_neg c1, if_neg c1]
      by_cases c2 : alB (a : Int) = true ∨ alB k = true
      · rw [if_pos c2, if_pos c2]
        rcases c2 with c2 | c2
        · have h5 : ¬ ((a : Int) = 5) := by intro e; rw [e] at c2; revert c2; decide
          have h6 : ¬ (a : Int) = 6 := by intro e; rw [e] at c2; revert c2; decide
          have : (stR (a :: r)).o = false := by
            cases h : (stR (a :: r)).o
            · rfl
            · exact absurd (hi h) h6
          rw [this]; simp [h5]
        · have h5 : ¬ (k = 14) := by intro e; rw [e] at c2; revert c2; decide
          have h6 : ¬ (k = 6) := by intro e; rw [e] at c2; revert c2; decide
          simp [h5, h6]
      · rw [if_neg c2, if_neg c2]
        by_cases c3 : k = 4 ∨ k = 5 ∨ k = 8
        · rw [if_pos c3, if_pos (.inr (by omega))]; rfl
        · rw [if_neg c3]
          by_cases c4 : (a : Int) = 7
          · rw [if_pos c4, if_pos (.inr (by omega))]; rfl
          · rw [if_neg c4]
            by_cases c5 : sylB a k = true
            · rw [if_pos (.inl c5), c5]; rfl
            · rw [if_neg (by rintro (h | h); exact c5 h; omega)]
              have c5' : sylB a k = false := by simpa using c5
              rw [c5', Bool.false_or]
              by_cases c6 : a = 5 ∧ k = 14
              · obtain ⟨rfl, rfl⟩ := c6
                rw [if_pos ⟨rfl, rfl⟩, hd]; simp
              · rw [if_neg c6, ho]
                have : ((stR r).d && decide ((a : Int) = 5) && decide (k = 14)) = false := by
                  by_cases h5 : (a : Int) = 5
                  · have : ¬ k = 14 := fun h => c6 ⟨by omega, h⟩
                    simp [this]
                  · simp [h5]
                rw [this, Bool.false_or, Bool.and_comm]

/-- What hangs on no more than a list's last characters. -/
theorem stp_forget (t u : St) (k : Int) (h : k ≠ 4 ∧ k ≠ 5 ∧ k ≠ 6) : stp t k = stp u k := by
  unfold stp
  simp [h.1, h.2.1, h.2.2]
theorem stL_since (l : List Int) (i : Nat) (hi : i = 0 ∨ (i < l.length ∧ cls (l.getD i 0) ≠ 4 ∧ cls (l.getD i 0) ≠ 5 ∧ cls (l.getD i 0) ≠ 6)) : stL (l.drop i) = stL l := by
  rcases hi with rfl | ⟨h, h4, h5, h6⟩
  · rfl
  · have e : l = l.take i ++ l.drop i := (List.take_append_drop i l).symm
    conv => rhs; rw [e]
    unfold stL
    rw [List.foldl_append, List.drop_eq_getElem_cons h, List.foldl_cons, List.foldl_cons]
    rw [List.getD_eq_getElem?_getD, List.getElem?_eq_getElem h] at h4 h5 h6
    simp only [Option.getD_some] at h4 h5 h6
    exact congrArg (fun t => List.foldl (fun t c => stp t (cls c)) t (l.drop (i + 1))) (stp_forget _ _ _ ⟨by omega, by omega, by omega⟩)

/-- The state behind some of a text's marks. -/
def stMs (ms : List (Int × Nat × Bool)) : St := stL (ms.map (·.1))
/-- Where clusters begin. -/
def begF (t : St) (p : Nat) : List (Int × Nat × Bool) → List Int
  | [] => []
  | m :: r => (if jn t (cls m.1) = true then [] else [(p : Int)]) ++ begF (stp t (cls m.1)) (p + m.2.1) r
def begL (l : List UInt8) : List Int := begF st0 0 (marks l)
def width (ms : List (Int × Nat × Bool)) : Nat := (ms.map (·.2.1)).sum
theorem begF_append (t : St) (p : Nat) (a b : List (Int × Nat × Bool)) :
    begF t p (a ++ b) = begF t p a ++ begF ((a.map (·.1)).foldl (fun t c => stp t (cls c)) t) (p + width a) b := by
  induction a generalizing t p with
  | nil => simp [begF, width]
  | cons m a ih =>
    simp only [List.cons_append, begF, ih, List.map_cons, List.foldl_cons, List.append_assoc, width, List.sum_cons]
    rw [Nat.add_assoc]
theorem begF_snoc (ms : List (Int × Nat × Bool)) (m : Int × Nat × Bool) :
    begF st0 0 (ms ++ [m]) = begF st0 0 ms ++ (if jn (stMs ms) (cls m.1) = true then [] else [(width ms : Int)]) := by
  rw [begF_append]
  simp only [begF, List.append_nil, Nat.zero_add]
  rfl
theorem stMs_snoc (ms : List (Int × Nat × Bool)) (m : Int × Nat × Bool) : stMs (ms ++ [m]) = stp (stMs ms) (cls m.1) := by
  unfold stMs; rw [List.map_append]; exact stL_snoc _ _
theorem width_snoc (ms : List (Int × Nat × Bool)) (m : Int × Nat × Bool) : width (ms ++ [m]) = width ms + m.2.1 := by simp [width]
theorem begF_pre (a b : List (Int × Nat × Bool)) : begF st0 0 a <+: begF st0 0 (a ++ b) := by rw [begF_append]; exact List.prefix_append _ _
theorem begF_length (t : St) (p : Nat) (ms : List (Int × Nat × Bool)) : (begF t p ms).length ≤ ms.length := by
  induction ms generalizing t p with
  | nil => simp [begF]
  | cons m ms ih =>
    have := ih (stp t (cls m.1)) (p + m.2.1)
    simp only [begF, List.length_append, List.length_cons]
    split <;> simp <;> omega
theorem begL_length (l : List UInt8) : (begL l).length ≤ l.length := Nat.le_trans (begF_length _ _ _) (marks_length l)


/-- The last of them, or 0. -/
def lastB (l : List Int) : Int := (l.getLast?).getD 0
theorem lastB_snoc (l : List Int) (x : Int) : lastB (l ++ [x]) = x := by simp [lastB]
theorem begF_bd (t : St) (p : Nat) (ms : List (Int × Nat × Bool)) : ∀ x ∈ begF t p ms, (p : Int) ≤ x ∧ x ≤ p + width ms := by
  induction ms generalizing t p with
  | nil => simp [begF]
  | cons m ms ih =>
    intro x hx
    have hw : width (m :: ms) = m.2.1 + width ms := by simp [width]
    rw [begF, List.mem_append] at hx
    rcases hx with hx | hx
    · split at hx
      · cases hx
      · rw [List.mem_singleton] at hx; omega
    · have := ih _ _ x hx
      omega
theorem width_marks (l : List UInt8) : width (marks l) = l.length := by
  refine marks_ind (p := fun l => width (marks l) = l.length) rfl ?_ l
  intro l hl ih
  have := mark_n l hl
  rw [marks_cons l hl]
  show (mrk l).2.1 + width (marks (l.drop (mrk l).2.1)) = _
  rw [ih, List.length_drop]; omega
theorem begL_bd (l : List UInt8) : ∀ x ∈ begL l, 0 ≤ x ∧ x ≤ l.length := by
  intro x hx
  have := begF_bd st0 0 (marks l) x hx
  rw [width_marks] at this
  omega
theorem lastB_bd (l : List UInt8) : 0 ≤ lastB (begL l) ∧ lastB (begL l) ≤ l.length := by
  unfold lastB
  cases h : (begL l).getLast? with
  | none => simp
  | some x => exact begL_bd l x (List.mem_of_getLast? h)
/-- The first one behind 0, or the text's end. -/
def frsL (l : List UInt8) : Int := ((begL l).find? (fun x => decide (0 < x))).getD l.length
theorem frsL_none (l : List UInt8) (h : ∀ x ∈ begL l, ¬ 0 < x) : frsL l = l.length := by
  unfold frsL
  rw [List.find?_eq_none.2 (by simpa using h)]; rfl
theorem frsL_some (l : List UInt8) (r : List Int) (x : Int) (hp : r ++ [x] <+: begL l) (hx : 0 < x) (h : ∀ y ∈ r, ¬ 0 < y) : frsL l = x := by
  obtain ⟨t, ht⟩ := hp
  unfold frsL
  rw [← ht, List.append_assoc, List.find?_append, List.find?_eq_none.2 (by simpa using h)]
  simp [hx]

end Go.Proofs.YtglljkbpdbnhaaaGreatDoor.Gm

set_option linter.unusedVariables false
set_option linter.unusedSimpArgs false
namespace Go.Proofs.YtglljkbpdbnhaaaGreatDoor.Gm
open Um Cm

theorem marks_pos (l : List UInt8) : ∀ m ∈ marks l, 1 ≤ m.2.1 := by
  refine marks_ind (p := fun l => ∀ m ∈ marks l, 1 ≤ m.2.1) (by simp [marks_nil]) ?_ l
  intro l hl ih m hm
  rw [marks_cons l hl, List.mem_cons] at hm
  rcases hm with rfl | hm
  · exact (mark_n l hl).1
  · exact ih m hm
theorem begF_lt (t : St) (p : Nat) (ms : List (Int × Nat × Bool)) (h : ∀ m ∈ ms, 1 ≤ m.2.1) : ∀ x ∈ begF t p ms, (p : Int) ≤ x ∧ x < p + width ms := by
  induction ms generalizing t p with
  | nil => simp [begF]
  | cons m ms ih =>
    intro x hx
    have hw : width (m :: ms) = m.2.1 + width ms := by simp [width]
    have h1 := h m (by simp)
    rw [begF, List.mem_append] at hx
    rcases hx with hx | hx
    · split at hx
      · cases hx
      · rw [List.mem_singleton] at hx; omega
    · have := ih _ _ (fun m hm => h m (by simp [hm])) x hx
      omega
theorem begF_rise (t : St) (p : Nat) (ms : List (Int × Nat × Bool)) (h : ∀ m ∈ ms, 1 ≤ m.2.1) : (begF t p ms).Pairwise (· < ·) := by
  induction ms generalizing t p with
  | nil => simp [begF]
  | cons m ms ih =>
    have h1 := h m (by simp)
    have hr := begF_lt (stp t (cls m.1)) (p + m.2.1) ms (fun m hm => h m (by simp [hm]))
    rw [begF, List.pairwise_append]
    refine ⟨by split <;> simp, ih _ _ (fun m hm => h m (by simp [hm])), fun x hx y hy => ?_⟩
    have := hr y hy
    split at hx
    · cases hx
    · rw [List.mem_singleton] at hx; omega
/-- Where clusters begin, and the end. -/
def stL1 (l : List UInt8) : List Int := begL l ++ [(l.length : Int)]
theorem stL1_length (l : List UInt8) : (stL1 l).length = (begL l).length + 1 := by simp [stL1]
theorem begL_lt (l : List UInt8) : ∀ x ∈ begL l, 0 ≤ x ∧ x < l.length := by
  intro x hx
  have := begF_lt st0 0 (marks l) (marks_pos l) x hx
  rw [width_marks] at this
  omega
theorem stL1_rise (l : List UInt8) : (stL1 l).Pairwise (· < ·) := by
  unfold stL1
  rw [List.pairwise_append]
  refine ⟨begF_rise _ _ _ (marks_pos l), by simp, fun x hx y hy => ?_⟩
  rw [List.mem_singleton] at hy
  have := begL_lt l x hx
  omega
theorem stL1_bd (l : List UInt8) : ∀ x ∈ stL1 l, 0 ≤ x ∧ x ≤ l.length := by
  intro x hx
  unfold stL1 at hx
  rw [List.mem_append, List.mem_singleton] at hx
  rcases hx with hx | hx
  · have := begL_lt l x hx; omega
  · omega
theorem stL1_get (l : List UInt8) (i : Nat) (hi : i < (stL1 l).length) : 0 ≤ (stL1 l).getD i 0 ∧ (stL1 l).getD i 0 ≤ l.length := by
  rw [List.getD_eq_getElem?_getD, List.getElem?_eq_getElem hi]
  exact stL1_bd l _ (List.getElem_mem hi)
theorem stL1_step (l : List UInt8) (i : Nat) (hi : i < (begL l).length) : (stL1 l).getD i 0 < (stL1 l).getD (i + 1) 0 := by
  have h1 : i < (stL1 l).length := by rw [stL1_length]; omega
  have h2 : i + 1 < (stL1 l).length := by rw [stL1_length]; omega
  rw [List.getD_eq_getElem?_getD, List.getElem?_eq_getElem h1, List.getD_eq_getElem?_getD, List.getElem?_eq_getElem h2]
  exact (List.pairwise_iff_getElem.1 (stL1_rise l)) i (i + 1) h1 h2 (by omega)
theorem jn_st0 (k : Int) : jn st0 k = false := by simp [jn, st0, pairB]
theorem begL_nil : begL [] = [] := rfl
theorem begL_ne (l : List UInt8) (h : l ≠ []) : ∃ r, begL l = 0 :: r ∧ ∀ x ∈ r, 0 < x := by
  unfold begL
  rw [marks_cons l h, begF, jn_st0]
  refine ⟨_, rfl, fun x hx => ?_⟩
  have h1 := (mark_n l h).1
  have := begF_bd _ _ _ x hx
  omega
theorem begL_zero (l : List UInt8) : (begL l).length = 0 ↔ l = [] := by
  constructor
  · intro h
    by_cases hl : l = []
    · exact hl
    · obtain ⟨r, hr, _⟩ := begL_ne l hl
      rw [hr] at h; simp at h
  · rintro rfl; rfl
theorem stL1_zero (l : List UInt8) (h : l ≠ []) : (stL1 l).getD 0 0 = 0 := by
  obtain ⟨r, hr, _⟩ := begL_ne l h
  unfold stL1; rw [hr]; rfl
theorem stL1_last (l : List UInt8) : (stL1 l).getD (begL l).length 0 = l.length := by
  unfold stL1
  rw [List.getD_eq_getElem?_getD, List.getElem?_append_right (Nat.le_refl _), Nat.sub_self]; rfl
theorem frsL_eq (l : List UInt8) (h : l ≠ []) : frsL l = (stL1 l).getD 1 0 := by
  obtain ⟨r, hr, hp⟩ := begL_ne l h
  unfold frsL stL1
  rw [hr]
  cases r with
  | nil => simp
  | cons x r =>
    have := hp x (by simp)
    simp [this]
theorem frsL_nil : frsL [] = 0 := rfl
theorem lastB_eq (l : List UInt8) (h : l ≠ []) : lastB (begL l) = (stL1 l).getD ((begL l).length - 1) 0 := by
  have hn : 0 < (begL l).length := by
    have := begL_zero l
    rcases Nat.eq_zero_or_pos (begL l).length with h0 | h0
    · exact absurd (this.1 h0) h
    · exact h0
  unfold lastB stL1
  rw [List.getD_eq_getElem?_getD, List.getElem?_append_left (by omega), List.getLast?_eq_getElem?]
theorem lastB_nil : lastB (begL []) = 0 := rfl
/-- Whether it is just one. -/
def oneB (l : List UInt8) : Bool := !l.isEmpty && (frsL l == l.length)
theorem oneB_eq (l : List UInt8) : oneB l = decide ((begL l).length = 1) := by
  unfold oneB
  cases l with
  | nil => rfl
  | cons c l =>
    have hne : c :: l ≠ [] := by simp
    obtain ⟨r, hr, hp⟩ := begL_ne (c :: l) hne
    have hf := frsL_eq (c :: l) hne
    rw [hf]
    unfold stL1
    rw [hr]
    cases r with
    | nil => simp
    | cons x r =>
      have := begL_lt (c :: l) x (by rw [hr]; simp)
      have h2 : ¬ x = ((c :: l).length : Int) := by omega
      simp only [List.cons_append, List.getD_cons_succ, List.getD_cons_zero]
      rw [beq_eq_false_iff_ne.2 h2]
      simp

/-- One piece of a text between two places. -/
def pc (s : ByteArray) (st : List Int) (i : Nat) : ByteArray := s.extract (st.getD i 0).toNat (st.getD (i + 1) 0).toNat
/-- The clusters. -/
def pcs (s : ByteArray) : List ByteArray := (List.range (begL s.data.toList).length).map (pc s (stL1 s.data.toList))
theorem pcs_length (s : ByteArray) : (pcs s).length = (begL s.data.toList).length := by simp [pcs]
theorem pc_list (s : ByteArray) (st : List Int) (i : Nat) : (pc s st i).data.toList = (s.data.toList.take (st.getD (i + 1) 0).toNat).drop (st.getD i 0).toNat := by
  unfold pc
  rw [ByteArray.data_extract, Array.toList_extract, List.extract_eq_take_drop, List.drop_take]
theorem pcs_take (s : ByteArray) (j : Nat) (h : j ≤ (begL s.data.toList).length) :
    (((List.range j).map (pc s (stL1 s.data.toList))).flatMap fun p => p.data.toList) = s.data.toList.take ((stL1 s.data.toList).getD j 0).toNat := by
  by_cases hl : s.data.toList = []
  · rw [hl] at h ⊢
    have : j = 0 := by simpa [begL_nil] using h
    subst this; simp
  induction j with
  | zero => rw [stL1_zero _ hl]; simp
  | succ j ih =>
    have h1 := stL1_step s.data.toList j (by omega)
    have h2 := stL1_get s.data.toList j (by rw [stL1_length]; omega)
    have h3 := stL1_get s.data.toList (j + 1) (by rw [stL1_length]; omega)
    rw [List.range_succ, List.map_append, List.flatMap_append, ih (by omega)]
    simp only [List.map_cons, List.map_nil, List.flatMap_cons, List.flatMap_nil, List.append_nil, pc_list]
    have e : s.data.toList.take ((stL1 s.data.toList).getD j 0).toNat = (s.data.toList.take ((stL1 s.data.toList).getD (j + 1) 0).toNat).take ((stL1 s.data.toList).getD j 0).toNat := by
      rw [List.take_take, Nat.min_eq_left (by omega)]
    rw [e, List.take_append_drop]
theorem pcs_all (s : ByteArray) : ((pcs s).flatMap fun p => p.data.toList) = s.data.toList := by
  unfold pcs
  rw [pcs_take s _ (Nat.le_refl _), stL1_last, List.take_of_length_le (by simp)]

/-! Where a text parts. -/
theorem stR_reset (r : List Nat) (k : Int) (h : jn (stR r) k = false) : stp (stR r) k = stp st0 k := by
  have hi := stR_inv r
  generalize stR r = t at *
  obtain ⟨a, d, s, o⟩ := t
  simp only at hi
  unfold jn at h
  simp only [Bool.or_eq_false_iff, Bool.and_eq_false_iff] at h
  obtain ⟨⟨h1, h2⟩, h3⟩ := h
  unfold stp
  simp only [st0, Bool.false_and, Bool.or_false, Bool.not_false, Bool.and_true]
  have e4 : d = true → k ≠ 4 ∧ k ≠ 5 := by
    intro hd
    have ha := hi.1 hd
    constructor
    · rintro rfl
      rcases ha with rfl | rfl <;> simp [pairB, alB] at h1
    · rintro rfl
      rcases ha with rfl | rfl <;> simp [pairB, alB] at h1
  have e1 : (d && decide (k = 4)) = false := by
    cases d
    · rfl
    · simp [(e4 rfl).1]
  have e2 : (d && decide (k = 5)) = false := by
    cases d
    · rfl
    · simp [(e4 rfl).2]
  have e3 : (decide (k = 6) && !o) = decide (k = 6) := by
    cases o
    · simp
    · simp only [Bool.true_eq_false, false_or, decide_eq_false_iff_not] at h3
      simp [h3]
  rw [e1, e2, e3]
  simp
theorem stMs_rev (ms : List (Int × Nat × Bool)) : stMs ms = stR ((ms.map (·.1)).map cls).reverse := stL_rev _
theorem begF_shift (t : St) (p q : Nat) (ms : List (Int × Nat × Bool)) : begF t (p + q) ms = (begF t p ms).map (· + (q : Int)) := by
  induction ms generalizing t p with
  | nil => rfl
  | cons m ms ih =>
    rw [begF, begF, List.map_append, ← ih, show p + q + m.2.1 = p + m.2.1 + q from by omega]
    split <;> simp
/-- Where the text parts, what stands behind begins anew. -/
theorem begL_part (a b : List UInt8) (hm : marks (a ++ b) = marks a ++ marks b) (hb : b ≠ []) (hj : jn (stMs (marks a)) (cls (mrk b).1) = false) :
    begL (a ++ b) = begL a ++ (begL b).map (· + (a.length : Int)) := by
  unfold begL
  rw [hm, begF_append, width_marks, Nat.zero_add]
  congr 1
  have h0 := begF_shift st0 0 a.length (marks b)
  rw [Nat.zero_add] at h0
  rw [← h0, marks_cons b hb, begF, begF, jn_st0]
  have hs : ((marks a).map (·.1)).foldl (fun t c => stp t (cls c)) st0 = stMs (marks a) := rfl
  rw [hs, hj]
  have hr : stp (stMs (marks a)) (cls (mrk b).1) = stp st0 (cls (mrk b).1) := by
    rw [stMs_rev] at hj ⊢
    exact stR_reset _ _ hj
  rw [hr]
theorem cut_right (A B : List UInt8) (x y : Int) (hx : 0 ≤ x) (hy : 0 ≤ y) : ((A ++ B).take (x + A.length).toNat).drop (y + A.length).toNat = (B.take x.toNat).drop y.toNat := by
  rw [show (x + (A.length : Int)).toNat = A.length + x.toNat from by omega, show (y + (A.length : Int)).toNat = A.length + y.toNat from by omega]
  rw [List.take_length_add_append, List.drop_length_add_append]
theorem cut_left (A B : List UInt8) (x y : Int) (hx : x ≤ A.length) : ((A ++ B).take x.toNat).drop y.toNat = (A.take x.toNat).drop y.toNat := by
  rw [List.take_append_of_le_length (by omega)]
set_option maxHeartbeats 1000000 in
theorem pcs_part (s t : ByteArray) (hm : marks (s.data.toList ++ t.data.toList) = marks s.data.toList ++ marks t.data.toList)
    (hj : t.data.toList ≠ [] → jn (stMs (marks s.data.toList)) (cls (mrk t.data.toList).1) = false) : pcs (s ++ t) = pcs s ++ pcs t := by
  have hd : (s ++ t).data.toList = s.data.toList ++ t.data.toList := by rw [ByteArray.data_append, Array.toList_append]
  by_cases hb : t.data.toList = []
  · have ht : s ++ t = s := ba_ext (by rw [hd, hb, List.append_nil])
    have h0 : pcs t = [] := by unfold pcs; rw [hb]; rfl
    rw [ht, h0, List.append_nil]
  · have hg := begL_part _ _ hm hb (hj hb)
    have hst : stL1 (s ++ t).data.toList = begL s.data.toList ++ (stL1 t.data.toList).map (· + (s.data.toList.length : Int)) := by
      unfold stL1
      rw [hd, hg, List.map_append, List.append_assoc]
      simp [Int.add_comm]
    have hz := stL1_zero t.data.toList hb
    have hlen : (stL1 t.data.toList).length = (begL t.data.toList).length + 1 := stL1_length _
    apply List.ext_getElem?
    intro i
    have hl : (pcs (s ++ t)).length = (pcs s ++ pcs t).length := by
      rw [List.length_append, pcs_length, pcs_length, pcs_length, hd, hg]; simp
    by_cases hi : i < (pcs (s ++ t)).length
    · have hi' : i < (begL (s ++ t).data.toList).length := by rw [← pcs_length]; exact hi
      have e1 : (pcs (s ++ t))[i]? = some (pc (s ++ t) (stL1 (s ++ t).data.toList) i) := by
        unfold pcs
        rw [List.getElem?_map, List.getElem?_range hi']; rfl
      rw [e1]
      have hgn : (begL (s ++ t).data.toList).length = (begL s.data.toList).length + (begL t.data.toList).length := by rw [hd, hg]; simp
      have hsl : s.size = s.data.toList.length := (size_list s).symm
      have key : ∀ j, j < (stL1 t.data.toList).length → ((begL s.data.toList ++ (stL1 t.data.toList).map (· + (s.data.toList.length : Int))).getD ((begL s.data.toList).length + j) 0) = (stL1 t.data.toList).getD j 0 + s.data.toList.length := by
        intro j hj
        rw [List.getD_eq_getElem?_getD, List.getElem?_append_right (by omega), Nat.add_sub_cancel_left, List.getElem?_map, List.getElem?_eq_getElem hj, List.getD_eq_getElem?_getD, List.getElem?_eq_getElem hj]
        rfl
      by_cases his : i < (begL s.data.toList).length
      · have e2 : (pcs s ++ pcs t)[i]? = some (pc s (stL1 s.data.toList) i) := by
          rw [List.getElem?_append_left (by rw [pcs_length]; exact his)]
          unfold pcs
          rw [List.getElem?_map, List.getElem?_range his]; rfl
        rw [e2]
        congr 1
        apply ba_ext
        rw [pc_list, pc_list, hst, hd]
        have f1 : (begL s.data.toList ++ (stL1 t.data.toList).map (· + (s.data.toList.length : Int))).getD i 0 = (stL1 s.data.toList).getD i 0 := by
          unfold stL1
          rw [List.getD_eq_getElem?_getD, List.getElem?_append_left his, List.getD_eq_getElem?_getD, List.getElem?_append_left his]
        have f2 : (begL s.data.toList ++ (stL1 t.data.toList).map (· + (s.data.toList.length : Int))).getD (i + 1) 0 = (stL1 s.data.toList).getD (i + 1) 0 := by
          by_cases h1 : i + 1 < (begL s.data.toList).length
          · unfold stL1
            rw [List.getD_eq_getElem?_getD, List.getElem?_append_left h1, List.getD_eq_getElem?_getD, List.getElem?_append_left h1]
          · have h2 : i + 1 = (begL s.data.toList).length := by omega
            have := key 0 (by omega)
            rw [Nat.add_zero] at this
            rw [h2, this, stL1_last, hz]; omega
        rw [f1, f2]
        have b := stL1_get s.data.toList (i + 1) (by rw [stL1_length]; omega)
        exact cut_left _ _ _ _ b.2
      · obtain ⟨j, rfl⟩ : ∃ j, i = (begL s.data.toList).length + j := ⟨i - (begL s.data.toList).length, by omega⟩
        have hjt : j < (begL t.data.toList).length := by omega
        have e2 : (pcs s ++ pcs t)[(begL s.data.toList).length + j]? = some (pc t (stL1 t.data.toList) j) := by
          rw [List.getElem?_append_right (by rw [pcs_length]; omega), pcs_length, Nat.add_sub_cancel_left]
          unfold pcs
          rw [List.getElem?_map, List.getElem?_range hjt]; rfl
        rw [e2]
        congr 1
        apply ba_ext
        have b1 := stL1_get t.data.toList j (by omega)
        have b2 := stL1_get t.data.toList (j + 1) (by omega)
        rw [pc_list, pc_list, hst, hd, key j (by omega), show (begL s.data.toList).length + j + 1 = (begL s.data.toList).length + (j + 1) from by omega, key (j + 1) (by omega)]
        exact cut_right _ _ _ _ b2.1 b1.1
    · rw [List.getElem?_eq_none (by omega), List.getElem?_eq_none (by omega)]

/-- How many begin, by classes alone. -/
def cntF (t : St) : List Nat → Nat
  | [] => 0
  | k :: r => (if jn t k = true then 0 else 1) + cntF (stp t k) r
theorem cntF_begF (t : St) (p : Nat) (ms : List (Int × Nat × Bool)) : (begF t p ms).length = cntF t (ms.map fun m => cls m.1) := by
  induction ms generalizing t p with
  | nil => rfl
  | cons m ms ih =>
    rw [begF, List.length_append, ih, List.map_cons, cntF]
    split <;> simp
theorem begL_join (xs : List Int) (h : ∀ c ∈ xs, vld c = true) : (begL (joinL xs)).length = cntF st0 (xs.map cls) := by
  unfold begL
  rw [cntF_begF, marks_join0 xs h, List.map_map]
  rfl

end Go.Proofs.YtglljkbpdbnhaaaGreatDoor.Gm
