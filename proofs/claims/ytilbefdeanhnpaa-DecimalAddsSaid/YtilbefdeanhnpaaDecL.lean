/- What the program's Print of decimals comes to, by a walk through it. -/
import Derived.Test.YtilbefdeanhnpaaRows
import Derived.Test.YtilbefdeanhnpaaDigL
import Derived.Test.YtilbefdeanhnpaaDecM
import Derived.Test.YtilbefdeanhnpaaInts
import Derived.Test.YtilbefdeanhnpaaSto
import Derived.Test.YtilbefdeanhnpaaStoB
import Derived.Test.YtilbefdeanhnpaaDigW
import Derived.Test.YtilbefdeanhnpaaDigV
import Derived.Test.YtilbefdeanhnpaaDigX
import Derived.Test.YtilbefdeanhnpaaDigQ
import Derived.Test.YtilbefdeanhnpaaDecR
import Derived.Test.YtilbefdeanhnpaaDecS
import Derived.Test.YtilbefdeanhnpaaDecC
import Derived.Test.YtilbefdeanhnpaaDecP
import Derived.Test.YtilbefdeanhnpaaDecQ
import Derived.Test.YtilbefdeanhnpaaDecD
import Derived.Test.YtilbefdeanhnpaaDigA
import Derived.Deep.QuietTactic
import Derived.Deep.RegionWith
import Derived.Deep.RegionHeld3
import Derived.BigQuiet
import Derived.Laws.ResultCell
set_option linter.unusedVariables false
set_option linter.unusedSimpArgs false
namespace Go.Proofs.Ytilbefdeanhnpaa
open Go.RowKit
namespace Ep
open Er (dv cellV LF LF.of LF.nil LF.mono LF.q LF.put LF.shape LF.lst block_cells some_cells block_set wrapI num_shl okD_shl)
set_option maxHeartbeats 3200000 in
theorem print_any (g : Bool) (v : Value) (s : Nat) (L : List Int) (w : World) (hv : Lst w v L) (hl : L.length < 10000) (hd : Dm.okD L) (hs : s ≤ 1000) :
    Calls Try.prog 21 #[dv g v s] w fun e w' => e = .returned (.string (Dm.prt g L s)) ∧ Q w w' := by
  obtain ⟨a, c, rfl⟩ := hv.shape
  have hok := (Dm.okB_iff L).2 hd
  have MA := Lib.hid (fun u (q : Q w u) => (by
    have e := may_any g (.slice a L.length c) s L u (hv.q q) (by omega) (by omega)
    rw [hok, show decide (0 ≤ (s : Int)) = true from by simp, show decide ((s : Int) ≤ 1000) = true from by simp; omega] at e
    exact e : Calls Try.prog 23 #[.agg #[.bool g, .slice a L.length c, .int .i64 s]] u fun e w' => e = .returned (.bool true) ∧ Q u w'))
  have WD := Lib.hid (fun u (q : Q w u) => (by
    refine (widen_any _ L (s + 1) u (hv.q q) (by omega) (by omega)).mono ?_
    rintro e w' ⟨x, rfl, ho, hq⟩
    exact ⟨x, rfl, ho.lst, hq⟩ : Calls Try.prog 45 #[.slice a L.length c, .int .i64 ((s : Int) + 1)] u fun e w' => ∃ x, e = .returned x ∧ Lst w' x (Dm.wid L s) ∧ Q u w'))
  have hwl := Dm.wid_len L s
  have TX := Lib.hid (fun u x (hx : Lst u x (Dm.wid L s)) => Dw.text_any x (Dm.wid L s) u hx (by omega) (Dm.wid_ok L s hd))
  have hsz := Dm.txt_size (Dm.wid L s)
  have HPR := Lib.hid (show Dm.prt g L s = if g = true then Dm.minB ++ Dm.ptx (Dm.txtB (Dm.wid L s)) s else Dm.ptx (Dm.txtB (Dm.wid L s)) s from rfl)
  rw [HPR.out]
  clear HPR
  generalize Dm.txtB (Dm.wid L s) = T at *
  obtain ⟨p, hp⟩ : ∃ p, p = (Dm.wid L s).length := ⟨_, rfl⟩
  rw [← hp] at hsz hwl
  generalize Dm.wid L s = P at *
  generalize L.length = n at *
  have HK := Lib.hid (fun u (q : Q (w.alloc (.cells #[.bool g, .slice a n c, .int .i64 s] 32)) u) => block_cells ((q.block (lt_of_block (heap_alloc_new w _))).trans (heap_alloc_new w _)))
  have hq0 : Q w (w.alloc (.cells #[.bool g, .slice a n c, .int .i64 s] 32)) := (Q.refl w).alloc _
  have HQ0 := Lib.hid hq0
  have hsp : s < p := by omega
  have hp3 : p < 100000 := by omega
  clear hq0 hv hok hwl hp
  have hptx : Dm.ptx T s = if s = 0 then T else T.extract 0 (p - s) ++ Dm.dotB ++ T.extract (p - s) p := by unfold Dm.ptx; rw [hsz]
  rcases (show s = 0 ∨ 0 < s from by omega) with hs0 | hs0
  · subst hs0
    rw [if_pos rfl] at hptx
    rw [hptx]
    clear hptx
    cases g
    all_goals
      go_enter Try.func21, Try.ntmps21
      unfold dv
      go_wp2_with fail
      refine (MA.out _ HQ0.out).mono ?_
      rintro e w1 ⟨rfl, hq⟩
      obtain ⟨k0, k1, k2, _, _, _⟩ := HK.out w1 hq
      have HA1 := Lib.hid hq
      clear hq
      go_wp2_with fail
      refine (WD.out _ (HQ0.out.trans HA1.out)).mono ?_
      rintro e w2 ⟨x, rfl, hx, hq⟩
      have HX := Lib.hid hx
      have HA2 := Lib.hid (HA1.out.trans hq)
      clear hq hx k0 k1 k2
      go_wp2_with fail
      refine (TX.out _ _ HX.out).mono ?_
      rintro e w3 ⟨rfl, hq⟩
      have HA3 := Lib.hid (HA2.out.trans hq)
      obtain ⟨k0, k1, k2, _, _, _⟩ := HK.out w3 HA3.out
      clear hq
      go_wp2_with fail
      go_ret
      exact ⟨rfl, HQ0.out.trans HA3.out⟩
  · obtain ⟨q, hq⟩ : ∃ q, q = p - s := ⟨_, rfl⟩
    rw [if_neg (by omega), ← hq] at hptx
    rw [hptx]
    clear hptx
    have hA1 : (T.extract 0 q).size = q := by rw [ByteArray.size_extract]; omega
    have hB1 : (T.extract q p).size = s := by rw [ByteArray.size_extract]; omega
    have hpi : (p : Int) - (s : Int) = (q : Int) := by omega
    have hqp : (q : Int) ≤ (p : Int) := by omega
    have hsi : (0 : Int) < (s : Int) := by omega
    have hqp2 : q ≤ p := by omega
    have hq2 : q < 100000 := by omega
    generalize heA : T.extract 0 q = A at *
    generalize heB : T.extract q p = Bz at *
    clear hq
    cases g
    all_goals
      go_enter Try.func21, Try.ntmps21
      unfold dv
      go_wp2_with fail
      refine (MA.out _ HQ0.out).mono ?_
      rintro e w1 ⟨rfl, hq⟩
      obtain ⟨k0, k1, k2, _, _, _⟩ := HK.out w1 hq
      have HA1 := Lib.hid hq
      clear hq
      go_wp2_with fail
      refine (WD.out _ (HQ0.out.trans HA1.out)).mono ?_
      rintro e w2 ⟨x, rfl, hx, hq⟩
      have HX := Lib.hid hx
      have HA2 := Lib.hid (HA1.out.trans hq)
      clear hq hx k0 k1 k2
      go_wp2_with fail
      refine (TX.out _ _ HX.out).mono ?_
      rintro e w3 ⟨rfl, hq⟩
      have HA3 := Lib.hid (HA2.out.trans hq)
      obtain ⟨k0, k1, k2, _, _, _⟩ := HK.out w3 HA3.out
      have HQ3 := Lib.hid (HQ0.out.trans HA3.out)
      clear hq
      go_wp2_with fail
      go_quiet (fail)
      go_wp2_with fail
      go_ret
      exact ⟨rfl, HQ3.out.drewN _⟩
end Ep
end Go.Proofs.Ytilbefdeanhnpaa
