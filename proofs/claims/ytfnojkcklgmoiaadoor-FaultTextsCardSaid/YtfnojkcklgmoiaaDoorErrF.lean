/- An error's text: what the program's Text and Error answer, and the document's own answer, the decimal digits of the code behind the path. -/
import Derived.Test.YtfnojkcklgmoiaaDoorErrE
import Derived.Test.YtfnojkcklgmoiaaDoorJoinT
import Derived.Test.YtfnojkcklgmoiaaDoorShelfI
import Derived.Test.YtfnojkcklgmoiaaDoorUtfR
import Derived.Lib.ItoaLen
set_option linter.unusedVariables false
set_option linter.unusedSimpArgs false
namespace Go.Proofs.YtfnojkcklgmoiaaDoor
open Go.RowKit Um
namespace Fe

/-- The variables of the library that are read here. -/
def Tab (w : World) : Prop := Lib.TabIs Tryd.prog w "internal/strconv.uint64pow10" .u64 Lib.pow10Tab
theorem tabNo : Tryd.prog.globalNamed "internal/strconv.uint64pow10" = some 2 := by kernel_rfl
theorem Tab.q {w w' : World} (h : Tab w) (hq : Q w w') : Tab w' := by
  unfold Tab Lib.TabIs World.var? at h ⊢
  rw [tabNo] at h ⊢
  simp only [Option.bind_some] at h ⊢
  have hlt : 2 < w.heap.size := by
    rcases Nat.lt_or_ge 2 w.heap.size with h' | h'
    · exact h'
    · rw [Array.getElem?_eq_none h'] at h; cases h
  rw [hq.block hlt]
  exact h
structure Env (w : World) : Prop where
  handle : Handle w
  tab : Tab w
theorem Env.q {w w' : World} (h : Env w) (hq : Q w w') : Env w' := ⟨h.handle.q hq, h.tab.q hq⟩

/-- A number's digits, as a text. -/
def itoB (c : Int) : ByteArray := ⟨(Lib.itoa c).toArray⟩
theorem itoB_size (c : Int) (h0 : -9223372036854775808 ≤ c) (h1 : c ≤ 9223372036854775807) : (itoB c).size ≤ 21 := by
  have := Lib.itoa_length_le c h0 h1
  show (Lib.itoa c).toArray.size ≤ 21
  simpa using this
/-- A path, each of it with a colon and a blank behind. -/
def pre (ps : List ByteArray) : List UInt8 := ps.flatMap fun p => p.data.toList ++ [58, 32]
def told (ps : List ByteArray) (c : Int) : ByteArray := ⟨(pre ps ++ Lib.itoa c).toArray⟩
theorem flat_told (s d : List UInt8) (r : List ByteArray) : (r.flatMap fun y => s ++ y.data.toList) ++ (s ++ d) = s ++ ((r.flatMap fun p => p.data.toList ++ s) ++ d) := by
  induction r with
  | nil => rfl
  | cons y r ih => simp only [List.flatMap_cons, List.append_assoc] at ih ⊢; rw [ih]
theorem cjn_told (ps : List ByteArray) (c : Int) : (⟨(cjn (ps ++ [itoB c])).toArray⟩ : ByteArray) = told ps c := by
  unfold told
  congr 2
  cases ps with
  | nil => simp [cjn, pre, itoB]
  | cons a r =>
    simp only [List.cons_append, cjn, pre, List.flatMap_cons, List.flatMap_append, List.append_assoc]
    congr 1
    have := flat_told [58, 32] (Lib.itoa c) r
    simpa [itoB] using this
theorem pre_length (ps : List ByteArray) : (pre ps).length = (cat ps).length + 2 * ps.length := by
  induction ps with
  | nil => rfl
  | cons p ps ih => simp only [pre, cat, List.flatMap_cons, List.length_append, List.length_cons] at ih ⊢; simp at ih ⊢; omega
theorem pre_take (ps : List ByteArray) (k : Nat) (p : ByteArray) (h : ps[k]? = some p) : pre (ps.take (k + 1)) = pre (ps.take k) ++ p.data.toList ++ [58, 32] := by
  obtain ⟨hk, rfl⟩ := List.getElem?_eq_some_iff.1 h
  unfold pre
  rw [List.take_succ_eq_append_getElem hk, List.flatMap_append]; simp
theorem pre_take_le (ps : List ByteArray) (k : Nat) : (pre (ps.take k)).length ≤ (cat ps).length + 2 * ps.length := by
  rw [pre_length]
  have h1 := cat_take_le ps k
  have h2 : (ps.take k).length ≤ ps.length := by simp; omega
  omega

theorem cat_one (ps : List ByteArray) (d : ByteArray) : (cat (ps ++ [d])).length = (cat ps).length + d.size := by
  have e : cat [d] = d.data.toList := by simp [cat]
  rw [cat_append, List.length_append, e, size_list]
theorem itoB_any (c : Int) (h0 : -9223372036854775808 ≤ c) (h1 : c ≤ 9223372036854775807) (w : World) (htab : Tab w) :
    Calls Tryd.prog 31 #[.int .i64 c] w fun e w' => e = .returned (.string (itoB c)) ∧ Q w w' := itoa_any c h0 h1 w htab

set_option maxHeartbeats 400000 in
theorem text_nil (w : World) : Calls Tryd.prog 17 #[.nilIface] w fun e w' => e = .returned (.string ⟨#[]⟩) ∧ w' = w := by
  go_enter Tryd.func17, Tryd.ntmps17
  go_wp2
  go_ret
  exact ⟨rfl, rfl⟩

set_option maxHeartbeats 4000000 in
set_option maxRecDepth 100000 in
theorem text_any (c : Int) (ps : List ByteArray) (v : Value) (w : World) (he : Env w) (h : EV w c ps v) (h0 : -9223372036854775808 ≤ c) (h1 : c ≤ 9223372036854775807) (hl : ps.length ≤ 1000000) (hc : (cat ps).length ≤ 1000000) :
    Calls Tryd.prog 17 #[v] w fun e w' => e = .returned (.string (told ps c)) ∧ Q w w' := by
  have hpath := Lib.hid (fun w1 (hq : Q w w1) => path_any c ps v w1 (he.handle.q hq) (h.q hq) (by omega))
  have hcode := Lib.hid (fun w1 (hq : Q w w1) => code_any c ps v w1 (he.handle.q hq) (h.q hq))
  obtain ⟨d, hd, hds, hdt⟩ : ∃ d, (∀ w1, Q w w1 → Calls Tryd.prog 31 #[.int .i64 c] w1 fun e w' => e = .returned (.string d) ∧ Q w1 w') ∧ d.size ≤ 21 ∧ (⟨(cjn (ps ++ [d])).toArray⟩ : ByteArray) = told ps c :=
    ⟨itoB c, fun w1 hq => itoB_any c h0 h1 w1 (he.tab.q hq), itoB_size c h0 h1, cjn_told ps c⟩
  have hito := Lib.hid hd
  have hjo := Lib.hid (fun (x : Value) w1 (hx : SLst w1 x (ps ++ [d])) => join_any x (ps ++ [d]) w1 hx (by simp; omega) (by rw [cat_one]; omega))
  have hlen : ps.length < 1099511627776 := by omega
  have HT := Lib.hid hdt
  clear hd hdt hds
  obtain ⟨tv, vv, rfl⟩ := h.iface
  clear he h hl hc
  go_enter Tryd.func17, Tryd.ntmps17
  go_wp2_with fail
  refine (hpath.out _ (Q.refl _)).mono ?_
  rintro e w1 ⟨⟨x, rfl, hx⟩, hq1⟩
  go_wp2_with fail
  refine (hcode.out _ hq1).mono ?_
  rintro e w2 ⟨rfl, hq2⟩
  go_wp2_with fail
  refine (hito.out _ (hq1.trans hq2)).mono ?_
  rintro e w3 ⟨rfl, hq3⟩
  have hq13 : Q w w3 := (hq1.trans hq2).trans hq3
  have hqs := hq13.le
  have hx3 : SOwn w3 w.heap.size x ps := (hx.q hq2).q hq3
  obtain ⟨xa, xc, rfl⟩ := hx.shape
  clear hx
  go_wp2_with (at_builtin; refine gpush elemS (en := Value.string) hx3 rfl _ _ rfl d rfl rfl rfl hlen hqs ?_)
  intro x' w4 hx' hgrow _
  have hq4 : Q w w4 := hq13.grown hgrow (fun j e => (hx3.lt j e).1)
  obtain ⟨ya, yc, rfl, _, _⟩ := hx'.lst.form0 (n := ps.length + 1) (by simp)
  go_wp2_with fail
  refine (hjo.out _ _ hx'.lst).mono ?_
  rintro e w5 ⟨rfl, hq5⟩
  go_wp2_with fail
  go_ret
  rw [HT.out]
  exact ⟨rfl, hq4.trans hq5⟩

set_option maxHeartbeats 4000000 in
set_option maxRecDepth 100000 in
theorem error_any (c : Int) (b : Nat) (ps : List ByteArray) (w : World) (he : Env w) (h : EV w c ps (.iface 47 (.pointer (some ⟨b, 0, none⟩)))) (h0 : -9223372036854775808 ≤ c) (h1 : c ≤ 9223372036854775807) (hl : ps.length ≤ 1000000) (hc : (cat ps).length ≤ 1000000) :
    Calls Tryd.prog 27 #[.pointer (some ⟨b, 0, none⟩)] w fun e w' => e = .returned (.string (told ps c)) ∧ Q w w' := by
  have ht := Lib.hid (fun w1 (hq : Q w w1) => text_any c ps _ w1 (he.q hq) (h.q hq) h0 h1 hl hc)
  clear he h hl hc
  go_enter Tryd.func27, Tryd.ntmps27
  go_wp2_with fail
  refine (ht.out _ (Q.refl _)).mono ?_
  rintro e w1 ⟨rfl, hq1⟩
  go_wp2_with fail
  go_ret
  exact ⟨rfl, hq1⟩

end Fe
end Go.Proofs.YtfnojkcklgmoiaaDoor
