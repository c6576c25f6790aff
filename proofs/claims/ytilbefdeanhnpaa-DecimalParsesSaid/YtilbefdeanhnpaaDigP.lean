/- Texts and their digits, whether they may be or not: one contract each. -/
import Derived.Test.YtilbefdeanhnpaaRows
import Derived.Test.YtilbefdeanhnpaaDigL
import Derived.Test.YtilbefdeanhnpaaInts
import Derived.Test.YtilbefdeanhnpaaSto
import Derived.Test.YtilbefdeanhnpaaDigA
import Derived.Test.YtilbefdeanhnpaaDigO
set_option linter.unusedVariables false
set_option linter.unusedSimpArgs false
namespace Go.Proofs.Ytilbefdeanhnpaa
open Go.RowKit
namespace Dm
def txR (xs : List Int) : ByteArray := if okB xs = true then txtB xs else ⟨#[]⟩
def prA (s : ByteArray) : List Int := if okS s = true then dgs s else []
def prC (s : ByteArray) : Int := if okS s = true then 0 else 2
theorem txR_ok {xs : List Int} (h : okD xs) : txR xs = txtB xs := if_pos ((okB_iff xs).2 h)
theorem prA_ok {s : ByteArray} (h : okS s = true) : prA s = dgs s := if_pos h
theorem prC_ok {s : ByteArray} (h : okS s = true) : prC s = 0 := if_pos h
theorem prC_bad {s : ByteArray} (h : okS s = false) : prC s = 2 := if_neg (by rw [h]; decide)
theorem prA_txt {xs : List Int} (h : okD xs) : prA (txtB xs) = xs := by rw [prA_ok (okS_txt xs h), dgs_txt xs h]
theorem prC_txt {xs : List Int} (h : okD xs) : prC (txtB xs) = 0 := prC_ok (okS_txt xs h)
theorem prA_len (s : ByteArray) : (prA s).length ≤ s.size := by
  unfold prA; split
  · rw [dgs_len]; exact Nat.le_refl _
  · exact Nat.zero_le _
theorem txt_prA {s : ByteArray} (h : okS s = true) : txR (prA s) = s := by rw [prA_ok h, txR_ok (okD_dgs s h), txt_dgs s h]
end Dm
namespace Dw
theorem textR (v : Value) (xs : List Int) (w : World) (hv : Lst w v xs) (hl : xs.length < 1000000) :
    Calls Try.prog 44 #[v] w fun e w' => e = .returned (.string (Dm.txR xs)) ∧ Q w w' := by
  cases hb : Dm.okB xs
  · refine (text_bad v xs w hv (by omega) hb).mono ?_
    rintro e w' ⟨rfl, rfl⟩
    refine ⟨?_, Q.refl _⟩
    unfold Dm.txR
    rw [if_neg (by rw [hb]; decide)]
  · have hx := (Dm.okB_iff xs).1 hb
    rw [Dm.txR_ok hx]
    exact text_any v xs w hv hl hx
end Dw
namespace Dr
theorem textR (v : Value) (xs : List Int) (w : World) (hv : Lst w v xs) (hl : xs.length < 1000000) :
    Calls Try.prog 41 #[v] w fun e w' => e = .returned (.string (Dm.txR xs)) ∧ Q w w' := by
  refine (text_any v xs w hv hl).mono ?_
  rintro e w' ⟨h1, h2, hq⟩
  refine ⟨?_, hq⟩
  unfold Dm.txR
  cases hb : Dm.okB xs
  · rw [if_neg (by decide)]; exact h2 hb
  · rw [if_pos rfl]; exact h1 hb
end Dr
end Go.Proofs.Ytilbefdeanhnpaa
