/- What the statements of maps begin with, and the document's example. -/
import Derived.Test.YtmobljfpkdjnpaaRows
import Derived.Test.YtmobljfpkdjnpaaInts
import Derived.Test.YtmobljfpkdjnpaaEls
import Derived.Test.YtmobljfpkdjnpaaPlcM
import Derived.Test.YtmobljfpkdjnpaaPlcW
import Derived.Test.YtmobljfpkdjnpaaUtfR
import Derived.Test.YtmobljfpkdjnpaaCluQ
set_option linter.unusedVariables false
set_option linter.unusedSimpArgs false
namespace Go.Proofs.Ytmobljfpkdjnpaa
open Go.RowKit Um Cm Gm Pm
namespace Pr

set_option maxHeartbeats 800000 in
theorem begin_any (s : ByteArray) (w : World) (hs : s.size ≤ maxLen) :
    Calls Try.prog 9 #[.string s] w fun e w' => ∃ b u, e = .returned (.tuple #[.pointer (some ⟨b, 0, none⟩), .string (Ur.few s 40), u]) ∧ Mp w' b (Ur.few s 40) ∧ Lst w' u (stL1 (Ur.few s 40).data.toList) ∧ Q w w' := by
  have hf := Ur.few_any s 40
  have hfs := Ur.few_size s 40
  generalize Ur.few s 40 = t at *
  have HF := Lib.hid (fun w => hf w hs (by omega))
  have HN := Lib.hid (fun w => mnew_any t w (by omega))
  have hst := fun w => Gr.starts_any t w (by omega)
  have HT := Lib.hid (fun w b h => mtext_any b t w h)
  have HL := Lib.hid (fun w b h => mlen_any b t w h)
  have HS := Lib.hid hst
  have HSN := Lib.hid (st_nC t)
  have hn := nC_le t
  generalize nC t = n at *
  have hcast : (((n + 1 : Nat) : Int) - 1) = n := by omega
  clear hf hst
  go_enter Try.func9, Try.ntmps9
  go_wp2_with fail
  refine (HF.out _).mono ?_
  rintro e w1 ⟨rfl, rfl⟩
  go_wp2_with fail
  refine (HN.out _).mono ?_
  rintro e w2 ⟨b, rfl, hm, hq1⟩
  go_wp2_with fail
  refine (HS.out _).mono ?_
  rintro e w3 ⟨u, rfl, hu, hq2⟩
  have hm2 := hm.q hq2
  have hu2 := hu.lst
  obtain ⟨ua, uc, rfl, hu3, hu4⟩ := hu2.form0 HSN.out
  go_wp2_with fail
  refine (HT.out _ _ hm2).mono ?_
  rintro e w4 ⟨rfl, rfl⟩
  go_wp2_with fail
  refine (HL.out _ _ hm2).mono ?_
  rintro e w4 ⟨rfl, rfl⟩
  go_wp2_with fail
  go_ret3
  exact ⟨_, _, rfl, hm2, hu2, hq1.trans hq2⟩

theorem ex_off : offZ ⟨#[101, 204, 129, 120]⟩ 1 = 3 := by decide +kernel
theorem ex_in : decide ((0 : Int) ≤ 1 ∧ (1 : Int) ≤ (nC ⟨#[101, 204, 129, 120]⟩ : Int)) = true := by decide +kernel
theorem ex_floor : floZ (stL1 (⟨#[101, 204, 129, 120]⟩ : ByteArray).data.toList) 2 = 0 := by decide +kernel
theorem ex_ceil : ceiZ (stL1 (⟨#[101, 204, 129, 120]⟩ : ByteArray).data.toList) 2 = 1 := by decide +kernel
set_option maxHeartbeats 800000 in
theorem lives_any (w : World) : Calls Try.prog 13 #[] w fun e w' => e = .returned (.bool true) ∧ Q w w' := by
  have HN := Lib.hid (fun w => mnew_any ⟨#[101, 204, 129, 120]⟩ w (by decide))
  have ho := fun w b h => moff_any b ⟨#[101, 204, 129, 120]⟩ 1 w h
  rw [ex_off, ex_in] at ho
  have hf := fun w b h => mfloor_any b ⟨#[101, 204, 129, 120]⟩ 2 w h (by decide)
  rw [ex_floor] at hf
  have hc := fun w b h => mceil_any b ⟨#[101, 204, 129, 120]⟩ 2 w h (by decide)
  rw [ex_ceil] at hc
  have HO := Lib.hid ho
  have HF := Lib.hid hf
  have HC := Lib.hid hc
  clear ho hf hc
  go_enter Try.func13, Try.ntmps13
  go_wp2_with fail
  refine (HN.out _).mono ?_
  rintro e w1 ⟨b, rfl, hm, hq1⟩
  go_wp2_with fail
  refine (HO.out _ _ hm).mono ?_
  rintro e w2 ⟨rfl, rfl⟩
  go_wp2_with fail
  refine (HF.out _ _ hm).mono ?_
  rintro e w2 ⟨rfl, hq2⟩
  go_wp2_with fail
  refine (HC.out _ _ (hm.q hq2)).mono ?_
  rintro e w3 ⟨rfl, hq3⟩
  go_wp2_with fail
  go_ret
  exact ⟨rfl, (hq1.trans hq2).trans hq3⟩

end Pr
end Go.Proofs.Ytmobljfpkdjnpaa
