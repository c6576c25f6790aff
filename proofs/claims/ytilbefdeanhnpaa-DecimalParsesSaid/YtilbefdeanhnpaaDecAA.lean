/- Parsing decimals: the program's and the document's own are one, whatever the text. -/
import Derived.Test.YtilbefdeanhnpaaRows
import Derived.Test.YtilbefdeanhnpaaDigL
import Derived.Test.YtilbefdeanhnpaaDecM
import Derived.Test.YtilbefdeanhnpaaInts
import Derived.Test.YtilbefdeanhnpaaSto
import Derived.Test.YtilbefdeanhnpaaStoB
import Derived.Test.YtilbefdeanhnpaaDigW
import Derived.Test.YtilbefdeanhnpaaDigV
import Derived.Test.YtilbefdeanhnpaaDigX
import Derived.Test.YtilbefdeanhnpaaDigQ
import Derived.Test.YtilbefdeanhnpaaDecR
import Derived.Test.YtilbefdeanhnpaaDecS
import Derived.Test.YtilbefdeanhnpaaDecC
import Derived.Test.YtilbefdeanhnpaaDecP
import Derived.Test.YtilbefdeanhnpaaDecQ
import Derived.Test.YtilbefdeanhnpaaDecT
import Derived.Test.YtilbefdeanhnpaaDecU
import Derived.Test.YtilbefdeanhnpaaDecZ
import Derived.Deep.CutRange
import Derived.Deep.CutBlock
import Derived.Deep.DeepCutAuto
import Derived.Deep.QuietTactic
import Derived.Deep.RegionWith
import Derived.Deep.RegionHeld3
import Derived.BigQuiet
import Derived.Laws.ResultCell
set_option linter.unusedVariables false
set_option linter.unusedSimpArgs false
namespace Go.Proofs.Ytilbefdeanhnpaa
open Go.RowKit
namespace Ep
open Er (dv cellV LF LF.of LF.nil LF.mono LF.q LF.put LF.shape LF.lst block_cells some_cells block_set wrapI num_shl okD_shl)
theorem scan_len (l : List UInt8) (ds : List Int) (pt : Bool) (sc ah : Nat) (r : List Int × Bool × Nat × Nat) (h : Dm.scan l ds pt sc ah = some r) : r.1.length ≤ ds.length + l.length := by
  induction l generalizing ds pt sc ah with
  | nil => cases h; exact Nat.le_refl _
  | cons c t ih =>
    rw [Dm.scan] at h
    split at h
    · have := ih _ _ _ _ h; rw [List.length_cons]; omega
    · split at h
      · split at h
        all_goals
          have := ih _ _ _ _ h
          rw [List.length_append] at this
          rw [List.length_cons]
          have e : [((c.toNat : Nat) : Int) - 48].length = 1 := rfl
          omega
      · cases h
theorem prs_len (l : List UInt8) : (Dm.prs l).2.1.length ≤ l.length := by
  rw [Dm.prs_fin]
  have hb : (Dm.bod l).length ≤ l.length := by unfold Dm.bod; split <;> simp
  cases h : Dm.scan (Dm.bod l) [] false 0 0 with
  | none => simp [Dm.fin]
  | some r =>
    have := scan_len _ _ _ _ _ _ h
    obtain ⟨ds, pt, sc, ah⟩ := r
    simp only [List.length_nil] at this
    unfold Dm.fin
    show (if ah = 0 ∨ (pt = true ∧ sc = 0) then (false, [], 0, 2) else if 1000 < sc then (false, [], 0, 3) else (Dm.sgn l, ds, sc, 0) : Bool × List Int × Nat × Int).2.1.length ≤ l.length
    split
    · simp
    · split
      · simp
      · show ds.length ≤ _
        omega
/-- Of whatever text the program's and the document's own Parse are one. -/
theorem parse_both (s : ByteArray) (hm : s.size ≤ 1000) : ∃ (g : Bool) (Z : List Int) (sc er : Int), Z.length ≤ 1000 ∧ (∀ u, Calls Try.prog 16 #[.string s] u fun e w' => ∃ a c, e = .returned (.tuple #[.agg #[.bool g, .slice a Z.length c, .int .i64 sc], .int .i64 er]) ∧ Lst w' (.slice a Z.length c) Z ∧ Q u w') ∧ (∀ u, Calls Try.prog 17 #[.string s] u fun e w' => ∃ a c, e = .returned (.tuple #[.agg #[.bool g, .slice a Z.length c, .int .i64 sc], .int .i64 er]) ∧ Lst w' (.slice a Z.length c) Z ∧ Q u w') := by
  have hl := prs_len s.data.toList
  rw [Um.size_list] at hl
  refine ⟨(Dm.prs s.data.toList).1, (Dm.prs s.data.toList).2.1, ((Dm.prs s.data.toList).2.2.1 : Nat), (Dm.prs s.data.toList).2.2.2, Nat.le_trans hl hm, fun u => Calls.mono (parse_any s u (by omega)) ?_, fun u => Calls.mono (Er.parse_any s u (by omega)) ?_⟩
  all_goals
    rintro e w' ⟨x, rfl, hx, hq⟩
    obtain ⟨a, c, rfl⟩ := hx.shape
    exact ⟨a, c, rfl, hx, hq⟩
theorem prt_ne (g : Bool) (L : List Int) (s : Nat) : 0 < (Dm.prt g L s).size := by
  have hw := Dm.wid_len L s
  have ht : 0 < (Dm.ptx (Dm.txtB (Dm.wid L s)) s).size := by
    unfold Dm.ptx
    have := Dm.txt_size (Dm.wid L s)
    split
    · omega
    · rw [ByteArray.size_append, ByteArray.size_append]
      have : Dm.dotB.size = 1 := rfl
      omega
  unfold Dm.prt
  split
  · rw [ByteArray.size_append]; omega
  · exact ht
end Ep
end Go.Proofs.Ytilbefdeanhnpaa
