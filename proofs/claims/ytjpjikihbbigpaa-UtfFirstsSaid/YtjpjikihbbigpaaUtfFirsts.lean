/- UtfFirsts: of whatever text the first and the last character are the document's; no conditions. -/
import Derived.Test.YtjpjikihbbigpaaRows
import Derived.WalkKit
import Derived.ProofKit
import Derived.OpenShut
import Derived.ShutString
import Derived.ChangeOld
import Derived.Below
import Derived.Test.YtjpjikihbbigpaaInts
import Derived.Test.YtjpjikihbbigpaaUtfM
import Derived.Test.YtjpjikihbbigpaaUtfR
import Derived.Test.YtjpjikihbbigpaaShelf
import Derived.Test.YtjpjikihbbigpaaUtfW
import Derived.Test.YtjpjikihbbigpaaUtfL
set_option linter.unusedVariables false
set_option linter.unusedSimpArgs false
namespace Go.Proofs.Ytjpjikihbbigpaa.utfFirsts
open Go.ChangeShapes Go.WideShapes Go.ChangeAt Go.RowKit
open Go.ChangeMaps (open_string shut_string)

theorem own : ownKnob Try.prog.godebug = none := by kernel_rfl
theorem laidOut : laidOutB Try.prog = true := by kernel_rfl

open Um
/-- The last character: where it begins, and that it is told from there. -/
theorem last_at (l : List UInt8) (hl : l ≠ []) (n : Nat) : ∃ p k, (marks l).length = k + 1 ∧ p < l.length ∧ (startsF n (marks l)).getD k 0 = ((n + p : Nat) : Int) ∧ (allL l).getD k 0 = (mrk (l.drop p)).1 ∧ lst3 l = ((mrk (l.drop p)).1, ((mrk (l.drop p)).2.1 : Int), (mrk (l.drop p)).2.2) ∧ p + (mrk (l.drop p)).2.1 = l.length := by
  suffices h : ∀ l : List UInt8, l ≠ [] → ∀ n, ∃ p k, (marks l).length = k + 1 ∧ p < l.length ∧ (startsF n (marks l)).getD k 0 = ((n + p : Nat) : Int) ∧ (allL l).getD k 0 = (mrk (l.drop p)).1 ∧ (marks l).getLast? = some (mrk (l.drop p)) ∧ p + (mrk (l.drop p)).2.1 = l.length by
    obtain ⟨p, k, h1, h2, h3, h4, h5, h6⟩ := h l hl n
    exact ⟨p, k, h1, h2, h3, h4, by unfold lst3; rw [h5], h6⟩
  intro l
  refine marks_ind (p := fun l => l ≠ [] → ∀ n, ∃ p k, (marks l).length = k + 1 ∧ p < l.length ∧ (startsF n (marks l)).getD k 0 = ((n + p : Nat) : Int) ∧ (allL l).getD k 0 = (mrk (l.drop p)).1 ∧ (marks l).getLast? = some (mrk (l.drop p)) ∧ p + (mrk (l.drop p)).2.1 = l.length) (by simp) ?_ l
  intro l hl ih _ n
  have hn := mark_n l hl
  by_cases hd : l.drop (mrk l).2.1 = []
  · refine ⟨0, 0, ?_, List.length_pos_iff.2 hl, ?_, ?_, ?_, ?_⟩
    · rw [marks_cons l hl, hd, marks_nil]; rfl
    · rw [marks_cons l hl]; simp [startsF]
    · unfold allL; rw [marks_cons l hl]; simp
    · rw [marks_cons l hl, hd, marks_nil]; simp
    · have := congrArg List.length hd
      simp at this ⊢; omega
  · obtain ⟨p, k, h1, h2, h3, h4, h5, h6⟩ := ih hd (n + (mrk l).2.1)
    rw [List.drop_drop] at h4 h5 h6
    rw [List.length_drop] at h2 h6
    refine ⟨(mrk l).2.1 + p, k + 1, ?_, by omega, ?_, ?_, ?_, by omega⟩
    · rw [marks_cons l hl, List.length_cons, h1]
    · rw [marks_cons l hl, startsF, List.getD_cons_succ, h3, Nat.add_assoc]
    · unfold allL at h4 ⊢
      rw [marks_cons l hl, List.map_cons, List.getD_cons_succ, h4]
    · rw [marks_cons l hl, List.getLast?_cons, h5]; rfl

set_option maxHeartbeats 2000000 in
set_option maxRecDepth 100000 in
theorem walk (w : World) (a0 : ByteArray) (w0 : a0.size ≤ maxLen) :
    Calls Try.prog 4 #[.string a0] w fun e w' => e = .returned (.bool true) ∧ Q w w' := by
  have hfs := Ur.few_size a0 30
  have hfew := Lib.hid (fun w => Ur.few_any a0 30 w w0 (by omega))
  generalize Ur.few a0 30 = s at *
  have hF := Lib.hid (fun w => first_any s w (by unfold maxLen; omega))
  have hR := Lib.hid (fun w => Ur.first_any s w (by unfold maxLen; omega))
  have hL := Lib.hid (fun w => last_any s w (by unfold maxLen; omega))
  have hA := Lib.hid (fun w => Ur.all_any s w (by omega))
  by_cases hs : s.size = 0
  · have hl : s.data.toList = [] := by apply List.eq_nil_of_length_eq_zero; rw [size_list]; exact hs
    have e1 : fst3 s.data.toList = (0, 0, false) := by rw [hl]; rfl
    have e2 : lst3 s.data.toList = (0, 0, false) := by rw [hl]; rfl
    have e3 : (allL s.data.toList).length = 0 := by rw [hl]; rfl
    rw [e1] at hF hR
    rw [e2] at hL
    have E3 := Lib.hid e3
    clear e1 e2 e3 hl
    go_enter Try.func4, Try.ntmps4
    go_wp2_with fail
    refine (hfew.out _).mono ?_
    rintro e w1 ⟨rfl, rfl⟩
    go_wp2_with fail
    refine (hF.out _).mono ?_
    rintro e w1 ⟨rfl, hq1⟩
    go_wp2_with fail
    refine (hR.out _).mono ?_
    rintro e w2 ⟨rfl, hq2⟩
    go_wp2_with fail
    refine (hA.out _).mono ?_
    rintro e w3 ⟨v, u, rfl, hv, hu, _, hq3⟩
    obtain ⟨a, c, rfl, _, _⟩ := hv.lst.form0 E3.out
    go_wp2_with fail
    refine (hL.out _).mono ?_
    rintro e w4 ⟨rfl, hq4⟩
    go_wp2_with fail
    refine (lives_any _).mono ?_
    rintro e w5 ⟨rfl, hq5⟩
    go_wp2_with fail
    go_ret
    exact ⟨rfl, (((hq1.trans hq2).trans hq3).trans hq4).trans hq5⟩
  · have hl : s.data.toList ≠ [] := by intro h; apply hs; rw [← size_list, h]; rfl
    obtain ⟨p, k, h1, h2, h3, h4, h5, h6⟩ := last_at s.data.toList hl 0
    rw [size_list] at h2 h6
    rw [Nat.zero_add] at h3
    have hal : (allL s.data.toList).length = k + 1 := by unfold allL; rw [List.length_map, h1]
    have hsl : (startsL s.data.toList).length = k + 1 + 1 := by unfold startsL; rw [startsF_length, h1]
    have h3 : (startsL s.data.toList).getD k 0 = (p : Int) := h3
    rw [h5] at hL
    have hml := marks_length s.data.toList
    rw [size_list, h1] at hml
    have hm1 := mark_n (s.data.toList.drop p) (drop_ne h2)
    have hG : ∀ w, Calls Try.prog 19 #[.string (s.extract p s.size)] w _ := fun w => Ur.first_any (s.extract p s.size) w (by rw [ByteArray.size_extract]; unfold maxLen; omega)
    rw [Ur.extract_list] at hG
    have hf3 : fst3 (s.data.toList.drop p) = ((mrk (s.data.toList.drop p)).1, ((mrk (s.data.toList.drop p)).2.1 : Int), (mrk (s.data.toList.drop p)).2.2) := by unfold fst3; rw [if_neg (drop_ne h2)]
    rw [hf3] at hG
    simp only at hG
    have HG := Lib.hid hG
    have H3 := Lib.hid h3
    have H4 := Lib.hid h4
    have HAL := Lib.hid hal
    have HSL := Lib.hid hsl
    have hk6 : (((mrk (s.data.toList.drop p)).2.1 : Int) == (s.size : Int) - (p : Int)) = true := by rw [beq_iff_eq]; omega
    generalize mrk (s.data.toList.drop p) = m at *
    obtain ⟨mc, mn, mo⟩ := m
    simp only at hm1 hk6
    clear hG hf3 h3 h4 hal hsl h1 h5 h6
    go_enter Try.func4, Try.ntmps4
    go_wp2_with fail
    refine (hfew.out _).mono ?_
    rintro e w1 ⟨rfl, rfl⟩
    go_wp2_with fail
    refine (hF.out _).mono ?_
    rintro e w1 ⟨rfl, hq1⟩
    go_wp2_with fail
    refine (hR.out _).mono ?_
    rintro e w2 ⟨rfl, hq2⟩
    go_wp2_with fail
    refine (hA.out _).mono ?_
    rintro e w3 ⟨v, u, rfl, hv, hu, _, hq3⟩
    obtain ⟨g, off, cap, rfl, hg, _, _, hcv⟩ := hv.lst.form HAL.out
    obtain ⟨g2, off2, cap2, rfl, hg2, _, _, hcu⟩ := hu.lst.form HSL.out
    have c1 := hcv k (by omega)
    have c2 := hcu k (by omega)
    rw [H4.out] at c1
    rw [H3.out] at c2
    clear hcv hcu
    go_wp2_with fail
    refine (hL.out _).mono ?_
    rintro e w4 ⟨rfl, hq4⟩
    have d1 := (World.cell?_of_block (w := w3) (hq4.block hg)).trans c1
    have d2 := (World.cell?_of_block (w := w3) (hq4.block hg2)).trans c2
    go_wp2_with fail
    refine (HG.out _).mono ?_
    rintro e w5 ⟨rfl, hq5⟩
    have f1 := (World.cell?_of_block (w := w4) (hq5.block (Nat.lt_of_lt_of_le hg hq4.le))).trans d1
    clear c1 c2 d1 d2
    go_wp2_with fail
    refine (lives_any _).mono ?_
    rintro e w6 ⟨rfl, hq6⟩
    go_wp2_with fail
    go_ret
    exact ⟨rfl, ((((hq1.trans hq2).trans hq3).trans hq4).trans hq5).trans hq6⟩

set_option maxRecDepth 100000 in
theorem lifted (os : Os) (started : os.Started) (H : Type) (enc : TypeId × Value → H) :
    ReturnsInHanded {} Try.checked os 4 .any (Rows.utfFirstsSpec.pre6 enc Try.prog Try.f4 Rows.utfFirstsRow.domain false) (Rows.utfFirstsSpec.post enc Try.prog Try.f4 false true false false) := by
  refine returnsInHanded_of_change (C := Try.checked) own started (by kernel_rfl) Try.func4
    (ChangeSpec.witness6 (enc := enc) (C := Try.checked) false ⟨#[], #[.string ByteArray.empty], []⟩ 8 (by kernel_rfl) (by kernel_rfl) (by kernel_rfl) (by kernel_rfl)) ?_
  intro W base args ds gs before hval0 hW hcnd _
  have hval : ∀ (j : Nat) t v, Try.f4.params[j]? = some t → args[j]? = some v → Value.okWide Try.prog W .any base t v := hval0
  have hW' := hW
  obtain ⟨p, q, hA0, hV, rfl, hfz, hnd⟩ := hW
  have hA : DataW.TrodAll enc Try.prog W 0 (fun _ => true) true Try.f4.params.toList args.toList ds p := hA0
  rw [Try.params4] at hA hval
  obtain ⟨v0, vs0, d0, ds0, p0, q0, hargs, rfl, rfl, h0, r0⟩ := trodAll_cons hA
  obtain ⟨rfl, rfl, rfl⟩ := trodAll_nil r0
  obtain rfl : args = #[v0] := by cases args; simp_all
  obtain ⟨rfl, rfl⟩ := trodVars_none hV
  obtain ⟨a0, rfl, rfl, rfl, w0⟩ := open_string Try.underlying9 (hval 0 9 v0 rfl rfl) h0
  clear hA0 hval0
  refine (walk W a0 w0).mono fun e W' ⟨he, bel⟩ => ?_
  subst he
  exact ⟨_, rfl, _, _, _, [], _, [], hW', trodAll_mk1 (shut_bool Try.underlying4 _), (trodAll_cons_mk (shut_string Try.underlying9 w0) trodAll_mk0), rfl, bel.below.frame _, fun h => by cases h⟩

/-- The statement. -/
theorem proved : Rows.UtfFirstsSaid :=
  OpenClaim.holds_of_wide 4 Try.f4 rfl rfl rfl rfl rfl rfl rfl ⟨rfl, rfl, rfl, rfl, rfl⟩ rfl rfl rfl rfl rfl (by kernel_rfl) Try.func4 (by kernel_rfl)
    (of_decide_eq_true (by kernel_rfl)) (by unfold Func.isWrapper; first | (rw [if_pos (by decide +kernel)]; kernel_rfl) | (rw [if_neg (by decide +kernel)]; exact ⟨rfl, rfl⟩))
    (fun os started H enc _ => lifted os started H enc)
#print axioms proved
end Go.Proofs.Ytjpjikihbbigpaa.utfFirsts
