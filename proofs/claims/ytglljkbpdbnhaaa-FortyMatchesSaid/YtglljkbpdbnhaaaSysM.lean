/- Systems of digits, as plain mathematics: the table of the document, what a name and a character tell of it. -/
import Derived.Test.YtglljkbpdbnhaaaRows
import Derived.Test.YtglljkbpdbnhaaaUtfM
import Derived.Test.YtglljkbpdbnhaaaDigM
import Derived.Sort.KeysCollected
set_option linter.unusedVariables false
set_option linter.unusedSimpArgs false
namespace Go.Proofs.Ytglljkbpdbnhaaa
namespace Sm
open Um

/-- The document's table: names, and noughts. -/
def tab : List (List UInt8 × Int) := [
  ([97, 114, 97, 98], 1632),
  ([97, 114, 97, 98, 101, 120, 116], 1776),
  ([98, 101, 110, 103], 2534),
  ([100, 101, 118, 97], 2406),
  ([102, 117, 108, 108, 119, 105, 100, 101], 65296),
  ([103, 117, 106, 114], 2790),
  ([103, 117, 114, 117], 2662),
  ([107, 104, 109, 114], 6112),
  ([107, 110, 100, 97], 3302),
  ([108, 97, 111, 111], 3792),
  ([108, 97, 116, 110], 48),
  ([109, 97, 116, 104, 115, 97, 110, 98], 120812),
  ([109, 108, 121, 109], 3430),
  ([109, 111, 110, 103], 6160),
  ([109, 121, 109, 114], 4160),
  ([111, 114, 121, 97], 2918),
  ([116, 97, 109, 108, 100, 101, 99], 3046),
  ([116, 101, 108, 117], 3174),
  ([116, 104, 97, 105], 3664),
  ([116, 105, 98, 116], 3872)]
def nzF : List (List UInt8 × Int) → List UInt8 → Int
  | [], _ => -1
  | p :: r, x => if p.1 = x then p.2 else nzF r x
theorem nzF_cons (p : List UInt8 × Int) (r : List (List UInt8 × Int)) (x : List UInt8) : nzF (p :: r) x = if p.1 = x then p.2 else nzF r x := rfl
/-- A name's nought; -1: there is none. -/
def nz (x : List UInt8) : Int := nzF tab x
def nmL : List (List UInt8) := tab.map (·.1)
def nmB : List ByteArray := nmL.map fun l => ⟨l.toArray⟩
def zrs : List Int := tab.map (·.2)
/-- Which digit a character is; -1: none. -/
def vl (z c : Int) : Int := if z ≤ c ∧ c ≤ z + 9 then c - z else -1
def ofF : List (List UInt8 × Int) → Int → List UInt8 × Int
  | [], _ => ([], -1)
  | p :: r, c => if p.2 ≤ c ∧ c ≤ p.2 + 9 then (p.1, c - p.2) else ofF r c
/-- Of which system a character is a digit. -/
def ofC (c : Int) : List UInt8 × Int := ofF tab c
def idx (n : Int) : Nat := (around n 20).toNat
/-- A name, made of a number; and its nought. -/
def nm (n : Int) : List UInt8 := nmL.getD (idx n) []
def nmZ (n : Int) : Int := zrs.getD (idx n) 0

theorem tab_len : tab.length = 20 := rfl
theorem nmL_len : nmL.length = 20 := rfl
theorem nmB_len : nmB.length = 20 := rfl
theorem zrs_len : zrs.length = 20 := rfl
theorem tab_bd : ∀ p ∈ tab, 48 ≤ p.2 ∧ p.2 ≤ 120812 ∧ (p.2 + 9 < 55296 ∨ 57343 < p.2) ∧ p.1.length ≤ 8 := by decide
theorem tab_nz : ∀ p ∈ tab, nz p.1 = p.2 := by decide +kernel
theorem tab_apart : tab.Pairwise fun p q => p.2 + 10 ≤ q.2 ∨ q.2 + 10 ≤ p.2 := by decide

theorem nzF_cases (l : List (List UInt8 × Int)) (x : List UInt8) : (nzF l x = -1 ∧ ∀ p ∈ l, p.1 ≠ x) ∨ (x, nzF l x) ∈ l := by
  induction l with
  | nil => exact .inl ⟨rfl, fun p hp => absurd hp List.not_mem_nil⟩
  | cons q r ih =>
    unfold nzF
    by_cases h : q.1 = x
    · rw [if_pos h]
      exact .inr (by rw [← h]; exact List.mem_cons_self)
    · rw [if_neg h]
      rcases ih with ⟨h1, h2⟩ | h1
      · exact .inl ⟨h1, fun p hp => by
          rcases List.mem_cons.1 hp with rfl | hp
          · exact h
          · exact h2 p hp⟩
      · exact .inr (List.mem_cons_of_mem _ h1)
theorem nz_cases (x : List UInt8) : (nz x = -1 ∧ x ∉ nmL) ∨ (x, nz x) ∈ tab := by
  rcases nzF_cases tab x with ⟨h, k⟩ | h
  · refine .inl ⟨h, fun hx => ?_⟩
    obtain ⟨p, hp, rfl⟩ := List.mem_map.1 hx
    exact k p hp rfl
  · exact .inr h
theorem nz_bd (x : List UInt8) : nz x = -1 ∨ (48 ≤ nz x ∧ nz x ≤ 120812 ∧ (nz x + 9 < 55296 ∨ 57343 < nz x)) := by
  rcases nz_cases x with ⟨h, _⟩ | h
  · exact .inl h
  · have := tab_bd _ h
    exact .inr ⟨this.1, this.2.1, this.2.2.1⟩

theorem ofF_mem {l : List (List UInt8 × Int)} (hp : l.Pairwise fun p q => p.2 + 10 ≤ q.2 ∨ q.2 + 10 ≤ p.2) {p : List UInt8 × Int} (h : p ∈ l) {c : Int} (h1 : p.2 ≤ c) (h2 : c ≤ p.2 + 9) : ofF l c = (p.1, c - p.2) := by
  induction l with
  | nil => cases h
  | cons q r ih =>
    obtain ⟨k1, k2⟩ := List.pairwise_cons.1 hp
    unfold ofF
    rcases List.mem_cons.1 h with rfl | h
    · rw [if_pos ⟨h1, h2⟩]
    · have := k1 p h
      rw [if_neg (by omega)]
      exact ih k2 h
theorem ofF_none {l : List (List UInt8 × Int)} {c : Int} (h : ∀ p ∈ l, ¬ (p.2 ≤ c ∧ c ≤ p.2 + 9)) : ofF l c = ([], -1) := by
  induction l with
  | nil => rfl
  | cons q r ih =>
    unfold ofF
    rw [if_neg (h q List.mem_cons_self)]
    exact ih fun p hp => h p (List.mem_cons_of_mem _ hp)
theorem ofC_mem {p : List UInt8 × Int} (h : p ∈ tab) {c : Int} (h1 : p.2 ≤ c) (h2 : c ≤ p.2 + 9) : ofC c = (p.1, c - p.2) := ofF_mem tab_apart h h1 h2
theorem ofC_none {c : Int} (h : ∀ p ∈ tab, ¬ (p.2 ≤ c ∧ c ≤ p.2 + 9)) : ofC c = ([], -1) := ofF_none h

theorem idx_lt (n : Int) : idx n < 20 := by
  have := around_bd n 20 (by omega)
  unfold idx; omega
theorem idx_int (n : Int) : around n 20 = (idx n : Int) := by
  have := around_bd n 20 (by omega)
  unfold idx; omega
theorem nm_mem (n : Int) : (nm n, nmZ n) ∈ tab := by
  have h := idx_lt n
  unfold nm nmZ
  generalize idx n = i at *
  have : ∀ i, i < 20 → (nmL.getD i [], zrs.getD i 0) ∈ tab := by decide
  exact this i h
theorem nm_nz (n : Int) : nz (nm n) = nmZ n := tab_nz _ (nm_mem n)
theorem nmZ_bd (n : Int) : 48 ≤ nmZ n ∧ nmZ n ≤ 120812 ∧ (nmZ n + 9 < 55296 ∨ 57343 < nmZ n) ∧ (nm n).length ≤ 8 := tab_bd _ (nm_mem n)
theorem nmB_at (i : Nat) (h : i < 20) : nmB[i]? = some ⟨(nmL.getD i []).toArray⟩ := by
  unfold nmB
  rw [List.getElem?_map, List.getD_eq_getElem?_getD, List.getElem?_eq_getElem (by rw [nmL_len]; exact h)]; rfl

theorem vl_bd (z c : Int) (h : vl z c ≠ -1) : 0 ≤ vl z c ∧ vl z c ≤ 9 ∧ c = z + vl z c := by
  unfold vl at *
  split at h <;> rename_i hc
  · rw [if_pos hc]; omega
  · exact absurd rfl h

/-! ### the map -/
def entries (l : List (List UInt8 × Int)) : List (Lit × DataW Unit) := l.map fun p => (.string p.1, .lit (.int .i64 p.2))
def D0 : DataW Unit := .map (entries tab)
theorem D0_size : Maps.size D0 = 20 := rfl
theorem strKeys_D0 : Go.strKeys D0 = nmL := rfl
theorem has_entries (l : List (List UInt8 × Int)) (hl : ∀ p ∈ l, p.2 ≠ -1) (x : List UInt8) : Maps.has (.map (entries l)) (.string x) = decide (nzF l x ≠ -1) := by
  induction l with
  | nil => rfl
  | cons q r ih =>
    have ih := ih fun p hp => hl p (List.mem_cons_of_mem _ hp)
    rw [Maps.has_eq] at ih ⊢
    show ((Lit.string q.1).sameKey (.string x) || (entries r).any fun p => p.1.sameKey (.string x)) = _
    rw [ih, nzF_cons]
    by_cases h : q.1 = x
    · have := hl q List.mem_cons_self
      simp [Lit.sameKey, h, this]
    · simp [Lit.sameKey, h]
theorem at_entries (l : List (List UInt8 × Int)) (x : List UInt8) (h : nzF l x ≠ -1) (z : DataW Unit) : (DataW.map (entries l)).atKey (.string x) z = .lit (.int .i64 (nzF l x)) := by
  induction l with
  | nil => exact absurd rfl h
  | cons q r ih =>
    unfold nzF at h ⊢
    unfold DataW.atKey at ih ⊢
    by_cases hq : q.1 = x
    · simp [entries, Lit.sameKey, hq]
    · rw [if_neg hq] at h ⊢
      have := ih h
      have hf : (Lit.string q.1).sameKey (.string x) = false := by simp [Lit.sameKey, hq]
      simp only [entries, List.map_cons, List.find?_cons, hf]
      exact this
theorem at_none (l : List (List UInt8 × Int)) (hl : ∀ p ∈ l, p.2 ≠ -1) (x : List UInt8) (h : nzF l x = -1) (z : DataW Unit) : (DataW.map (entries l)).atKey (.string x) z = z := by
  induction l with
  | nil => rfl
  | cons q r ih =>
    have h0 := hl q List.mem_cons_self
    unfold nzF at h
    unfold DataW.atKey at ih ⊢
    by_cases hq : q.1 = x
    · rw [if_pos hq] at h; exact absurd h h0
    · rw [if_neg hq] at h
      have := ih (fun p hp => hl p (List.mem_cons_of_mem _ hp)) h
      have hf : (Lit.string q.1).sameKey (.string x) = false := by simp [Lit.sameKey, hq]
      simp only [entries, List.map_cons, List.find?_cons, hf]
      exact this
theorem tab_ne : ∀ p ∈ tab, p.2 ≠ -1 := fun p hp => by have := tab_bd p hp; omega
theorem D0_has (x : List UInt8) : Maps.has D0 (.string x) = decide (nz x ≠ -1) := has_entries tab tab_ne x
theorem D0_at (x : List UInt8) (z : DataW Unit) (h : nz x ≠ -1) : D0.atKey (.string x) z = .lit (.int .i64 (nz x)) := at_entries tab x h z
theorem D0_none (x : List UInt8) (z : DataW Unit) (h : nz x = -1) : D0.atKey (.string x) z = z := at_none tab tab_ne x h z
/-- An entry that a range tells. -/
theorem D0_mem {x : List UInt8} {c : Int} (h : D0.atKey (.string x) (.lit (.bool true)) = .lit (.int .i64 c)) : (x, c) ∈ tab := by
  by_cases hn : nz x = -1
  · rw [D0_none x _ hn] at h; cases h
  · rw [D0_at x _ hn] at h
    rcases nz_cases x with ⟨h1, _⟩ | h1
    · exact absurd h1 hn
    · have : nz x = c := by
        injection h with h; injection h
      rw [← this]; exact h1
theorem sorted_nmL : nmL.mergeSort (fun x y => decide (x ≤ y)) = nmL := List.mergeSort_of_pairwise (by decide)

/-! ### digits shaped, and read -/
/-- The error, and the bytes, of digits that are shaped by the system of a nought (-1: there is none). -/
def shE (z : Int) (l : List Int) : Int := if z = -1 then 7 else if Dm.okB l = true then 0 else 1
def shS (z : Int) (l : List Int) : List UInt8 := if z = -1 then [] else if Dm.okB l = true then joinL (l.map (z + ·)) else []
def rdB (z : Int) (cs : List Int) : Bool := cs.all fun c => decide (z ≤ c ∧ c ≤ z + 9)
/-- The error, and the digits, of characters that are read. -/
def rdE (z : Int) (cs : List Int) : Int := if z = -1 then 7 else if rdB z cs = true then 0 else 2
def rdL (z : Int) (cs : List Int) : List Int := if z = -1 then [] else if rdB z cs = true then cs.map (· - z) else []
def cvE (f t : Int) (cs : List Int) : Int := if t = -1 then 7 else rdE f cs
def cvS (f t : Int) (cs : List Int) : List UInt8 := if t = -1 then [] else if rdE f cs = 0 then joinL ((rdL f cs).map (t + ·)) else []
def dgE (z d : Int) : Int := if z = -1 then 7 else if 0 ≤ d ∧ d ≤ 9 then 0 else 3
def dgS (z d : Int) : ByteArray := if z = -1 then ⟨#[]⟩ else if 0 ≤ d ∧ d ≤ 9 then encB (z + d) else ⟨#[]⟩
def vlE (z c : Int) : Int := if z = -1 then 7 else if vl z c = -1 then 2 else 0
def vlV (z c : Int) : Int := if z = -1 then 0 else if vl z c = -1 then 0 else vl z c
/-- The document's own. -/
def vv (z c : Int) : Int := if z = -1 then -1 else vl z c

theorem rdB_iff (z : Int) (cs : List Int) : rdB z cs = true ↔ ∀ c ∈ cs, z ≤ c ∧ c ≤ z + 9 := by simp [rdB]
theorem rdL_ok (z : Int) (cs : List Int) : Dm.okD (rdL z cs) := by
  unfold rdL
  split
  · exact Dm.okD_nil
  · split
    · rename_i h
      intro d hd
      obtain ⟨c, hc, rfl⟩ := List.mem_map.1 hd
      have := (rdB_iff z cs).1 h c hc
      omega
    · exact Dm.okD_nil
theorem rdL_len (z : Int) (cs : List Int) : (rdL z cs).length ≤ cs.length := by
  unfold rdL
  split
  · simp
  · split <;> simp
theorem rdL_E (z : Int) (cs : List Int) (h : rdE z cs ≠ 0) : rdL z cs = [] := by
  unfold rdE at h; unfold rdL
  split
  · rfl
  · rename_i h1
    rw [if_neg h1] at h
    split
    · rename_i h2; rw [if_pos h2] at h; exact absurd rfl h
    · rfl
theorem vld_dig {z d : Int} (hz : 48 ≤ z ∧ z ≤ 120812 ∧ (z + 9 < 55296 ∨ 57343 < z)) (hd : 0 ≤ d ∧ d ≤ 9) : vld (z + d) = true := (vld_iff _).2 (by omega)
theorem shS_snoc (z : Int) (l : List Int) (k : Nat) (hk : k < l.length) : joinL ((l.take (k + 1)).map (z + ·)) = joinL ((l.take k).map (z + ·)) ++ one (z + l.getD k 0) := by
  rw [List.take_succ_eq_append_getElem hk, List.map_append, List.getD_eq_getElem?_getD, List.getElem?_eq_getElem hk]
  simp [joinL]
theorem getD_dig {l : List Int} (h : Dm.okD l) {k : Nat} (hk : k < l.length) : 0 ≤ l.getD k 0 ∧ l.getD k 0 ≤ 9 := by
  rw [List.getD_eq_getElem?_getD, List.getElem?_eq_getElem hk]
  exact h _ (List.getElem_mem hk)
theorem rd_snoc (z : Int) (cs : List Int) (k : Nat) (hk : k < cs.length) : (cs.take (k + 1)).map (· - z) = (cs.take k).map (· - z) ++ [cs.getD k 0 - z] := by
  rw [List.take_succ_eq_append_getElem hk, List.map_append, List.getD_eq_getElem?_getD, List.getElem?_eq_getElem hk]; rfl
/-- What is shaped reads as it was. -/
theorem rd_sh {z : Int} (hz : 48 ≤ z ∧ z ≤ 120812 ∧ (z + 9 < 55296 ∨ 57343 < z)) {l : List Int} (hl : Dm.okD l) : allL (joinL (l.map (z + ·))) = l.map (z + ·) := by
  refine allL_join _ fun c hc => ?_
  obtain ⟨d, hd, rfl⟩ := List.mem_map.1 hc
  exact vld_dig hz (hl d hd)
theorem rdB_sh {z : Int} {l : List Int} (hl : Dm.okD l) : rdB z (l.map (z + ·)) = true := by
  rw [rdB_iff]
  intro c hc
  obtain ⟨d, hd, rfl⟩ := List.mem_map.1 hc
  have := hl d hd
  omega
theorem rdL_sh {z : Int} (hz : z ≠ -1) {l : List Int} (hl : Dm.okD l) : rdL z (l.map (z + ·)) = l := by
  unfold rdL
  rw [if_neg hz, if_pos (rdB_sh hl), List.map_map]
  conv => rhs; rw [← List.map_id l]
  refine List.map_congr_left fun d _ => ?_
  show z + d - z = d
  omega
theorem rdE_sh {z : Int} (hz : z ≠ -1) {l : List Int} (hl : Dm.okD l) : rdE z (l.map (z + ·)) = 0 := by
  unfold rdE
  rw [if_neg hz, if_pos (rdB_sh hl)]
theorem shE_ok {z : Int} (hz : z ≠ -1) {l : List Int} (hl : Dm.okD l) : shE z l = 0 := by
  unfold shE
  rw [if_neg hz, if_pos ((Dm.okB_iff l).2 hl)]
theorem shS_ok {z : Int} (hz : z ≠ -1) {l : List Int} (hl : Dm.okD l) : shS z l = joinL (l.map (z + ·)) := by
  unfold shS
  rw [if_neg hz, if_pos ((Dm.okB_iff l).2 hl)]
theorem shS_ok_len {z : Int} (hz : z ≠ -1) {l : List Int} (hl : Dm.okD l) : (shS z l).length ≤ 4 * l.length := by
  rw [shS_ok hz hl]
  have := joinL_length (l.map (z + ·))
  rwa [List.length_map] at this
theorem ne_of_bd {z : Int} (hz : 48 ≤ z ∧ z ≤ 120812 ∧ (z + 9 < 55296 ∨ 57343 < z)) : z ≠ -1 := by omega
theorem rdE_back {z : Int} (hz : 48 ≤ z ∧ z ≤ 120812 ∧ (z + 9 < 55296 ∨ 57343 < z)) {l : List Int} (hl : Dm.okD l) : rdE z (allL (shS z l)) = 0 := by
  rw [shS_ok (ne_of_bd hz) hl, rd_sh hz hl, rdE_sh (ne_of_bd hz) hl]
theorem rdL_back {z : Int} (hz : 48 ≤ z ∧ z ≤ 120812 ∧ (z + 9 < 55296 ∨ 57343 < z)) {l : List Int} (hl : Dm.okD l) : rdL z (allL (shS z l)) = l := by
  rw [shS_ok (ne_of_bd hz) hl, rd_sh hz hl, rdL_sh (ne_of_bd hz) hl]
theorem cvE_back {f t : Int} (hf : 48 ≤ f ∧ f ≤ 120812 ∧ (f + 9 < 55296 ∨ 57343 < f)) (ht : t ≠ -1) {l : List Int} (hl : Dm.okD l) : cvE f t (allL (shS f l)) = 0 := by
  unfold cvE
  rw [if_neg ht, rdE_back hf hl]
theorem cvS_back {f t : Int} (hf : 48 ≤ f ∧ f ≤ 120812 ∧ (f + 9 < 55296 ∨ 57343 < f)) (ht : t ≠ -1) {l : List Int} (hl : Dm.okD l) : cvS f t (allL (shS f l)) = shS t l := by
  unfold cvS
  rw [if_neg ht, if_pos (rdE_back hf hl), rdL_back hf hl, shS_ok ht hl]

end Sm
end Go.Proofs.Ytglljkbpdbnhaaa
