/- The document's example, as the statements ask it. Our own work. -/
import Derived.Deep.Cut
import Derived.Deep.DeepCutAuto
import Derived.Test.YtjloibgjnnknnaaDoorRows
import Derived.Test.YtjloibgjnnknnaaDoorInts
import Derived.Test.YtjloibgjnnknnaaDoorUtfM
import Derived.Test.YtjloibgjnnknnaaDoorUtfW
import Derived.Test.YtjloibgjnnknnaaDoorBlk
import Derived.Test.YtjloibgjnnknnaaDoorPcs
import Derived.Test.YtjloibgjnnknnaaDoorPatM
import Derived.Test.YtjloibgjnnknnaaDoorPatN
import Derived.Test.YtjloibgjnnknnaaDoorPgA
import Derived.Test.YtjloibgjnnknnaaDoorPgJ
import Derived.Test.YtjloibgjnnknnaaDoorPgO
import Derived.Test.YtjloibgjnnknnaaDoorPgP
import Derived.Test.YtjloibgjnnknnaaDoorPgQ
import Derived.Test.YtjloibgjnnknnaaDoorPgR
import Derived.Test.YtjloibgjnnknnaaDoorPgS
import Derived.Deep.QuietTactic
import Derived.BigQuiet
import Derived.Deep.RegionHeld3
set_option linter.unusedVariables false
set_option linter.unusedSimpArgs false
namespace Go.Proofs.YtjloibgjnnknnaaDoor
open Go.RowKit
namespace Pg
open Pt Um

def liv1 : List Int := [35, 44, 35, 35, 48, 46, 48, 48, 32, 120]
def liv2 : List Int := [40, 48, 41]
theorem liv1_parse (w : World) : Calls Tryd.prog 15 #[.string ⟨#[35, 44, 35, 35, 48, 46, 48, 48, 32, 120]⟩] w fun e w' => ∃ v, e = .returned (.tuple #[v, .int .i64 0]) ∧ PV w' w.heap.size v ⟨[], [(0, [32, 120])], [(3, [])], [(0, [32, 120])], 3, 3, 1, 2, 2⟩ ∧ Q w w' := by
  have h := parse1 (cs := liv1) (by decide +kernel) (by decide +kernel) (P := []) (N := [(4, 35), (4, 44), (4, 35), (4, 35), (4, 48), (4, 46), (4, 48), (4, 48)]) (S := [(0, 32), (0, 120)]) (c := false) (by decide +kernel)
    ⟨(fun x hx => by cases hx), (by unfold okT; decide +kernel), (by decide +kernel)⟩ (by decide +kernel) (by decide +kernel) (by decide +kernel) w
  rw [show (parseC liv1).1 = ⟨[], [(0, [32, 120])], [(3, [])], [(0, [32, 120])], 3, 3, 1, 2, 2⟩ by decide +kernel, show joinL liv1 = [35, 44, 35, 35, 48, 46, 48, 48, 32, 120] by decide +kernel] at h
  exact h
theorem liv2_parse (w : World) : Calls Tryd.prog 15 #[.string ⟨#[40, 48, 41]⟩] w fun e w' => ∃ v, e = .returned (.tuple #[v, .int .i64 0]) ∧ PV w' w.heap.size v ⟨lits [[40]], lits [[41]], (3, []) :: lits [[40]], lits [[41]], 0, 0, 1, 0, 0⟩ ∧ Q w w' := by
  have h := parse1 (cs := liv2) (by decide +kernel) (by decide +kernel) (P := [(0, 40)]) (N := [(4, 48)]) (S := [(0, 41)]) (c := false) (by decide +kernel)
    ⟨(by unfold okT; decide +kernel), (by unfold okT; decide +kernel), (by decide +kernel)⟩ (by decide +kernel) (by decide +kernel) (by decide +kernel) w
  rw [show (parseC liv2).1 = ⟨lits [[40]], lits [[41]], (3, []) :: lits [[40]], lits [[41]], 0, 0, 1, 0, 0⟩ by decide +kernel, show joinL liv2 = [40, 48, 41] by decide +kernel] at h
  exact h
theorem liv2_print (v : Value) (B : Nat) (w : World) (hv : PV w B v ⟨lits [[40]], lits [[41]], (3, []) :: lits [[40]], lits [[41]], 0, 0, 1, 0, 0⟩) :
    Calls Tryd.prog 19 #[v] w fun e w' => e = .returned (.string ⟨#[40, 48, 41]⟩) ∧ Q w w' := by
  have h := print_any v B [[40]] [[41]] 1 (.inr rfl) w hv (by decide) (by decide) (by decide +kernel) (by decide +kernel)
  rw [show joinL ([[40]].flatMap (prS []) ++ [if (1 : Int) = 1 then 48 else 35] ++ [[41]].flatMap (prS [])) = [40, 48, 41] by decide +kernel] at h
  exact h
theorem eq_liv : ((⟨#[40, 48, 41]⟩ : ByteArray) == ⟨#[40, 48, 41]⟩) = true := by decide +kernel

set_option maxHeartbeats 2000000 in
set_option maxRecDepth 100000 in
theorem lives_any (w : World) : Calls Tryd.prog 13 #[] w fun e w' => e = .returned (.bool true) ∧ Q w w' := by
  have H1 := Lib.hid liv1_parse
  have H2 := Lib.hid liv2_parse
  go_enter Tryd.func13, Tryd.ntmps13
  go_wp2_with fail
  refine (H1.out _).mono ?_
  rintro e w1 ⟨v1, rfl, ⟨a, b, c, d, rfl, ha, hb, hc, hd⟩, hq1⟩
  obtain ⟨a1, a2, rfl, _, _⟩ := ha.1.form0 rfl
  obtain ⟨b1, b2, rfl, _, _⟩ := hb.1.form0 rfl
  obtain ⟨c1, c2, rfl, _, _⟩ := hc.1.form0 rfl
  obtain ⟨d1, d2, rfl, _, _⟩ := hd.1.form0 rfl
  have HQ1 := Lib.hid hq1
  clear hq1 ha hb hc hd
  have HB1 := Lib.hid (Bk.new w1 39 [.slice a1 0 a2, .slice b1 1 b2, .slice c1 1 c2, .slice d1 1 d2, .int .i64 3, .int .i64 3, .int .i64 1, .int .i64 2, .int .i64 2])
  have HQ2 := Lib.hid (HQ1.out.alloc (.cells #[.slice a1 0 a2, .slice b1 1 b2, .slice c1 1 c2, .slice d1 1 d2, .int .i64 3, .int .i64 3, .int .i64 1, .int .i64 2, .int .i64 2] 39))
  go_wp2_with fail
  refine (H2.out _).mono ?_
  rintro e w2 ⟨v2, rfl, hpv, hq2⟩
  have HPV := Lib.hid hpv
  obtain ⟨a, b, c, d, rfl, ha, hb, hc, hd⟩ := hpv
  obtain ⟨e1, e2, rfl, _, _⟩ := ha.1.form0 (show (lits [[40]]).length = 1 from rfl)
  obtain ⟨f1, f2, rfl, _, _⟩ := hb.1.form0 (show (lits [[41]]).length = 1 from rfl)
  obtain ⟨g1, g2, rfl, _, _⟩ := hc.1.form0 (show ((3, []) :: lits [[40]] : List Pc.E).length = 2 from rfl)
  obtain ⟨h1, h2, rfl, _, _⟩ := hd.1.form0 (show (lits [[41]]).length = 1 from rfl)
  have k1 := HB1.out.q (hq2.alloc (.cells #[.slice e1 1 e2, .slice f1 1 f2, .slice g1 2 g2, .slice h1 1 h2, .int .i64 0, .int .i64 0, .int .i64 1, .int .i64 0, .int .i64 0] 39))
  have p4 := k1.cell 4 rfl
  have p6 := k1.cell 6 rfl
  have p7 := k1.cell 7 rfl
  have k2 := Bk.new w2 39 [.slice e1 1 e2, .slice f1 1 f2, .slice g1 2 g2, .slice h1 1 h2, .int .i64 0, .int .i64 0, .int .i64 1, .int .i64 0, .int .i64 0]
  have p20 := k2.cell 0 rfl
  have p21 := k2.cell 1 rfl
  have p22 := k2.cell 2 rfl
  have p23 := k2.cell 3 rfl
  have p24 := k2.cell 4 rfl
  have p25 := k2.cell 5 rfl
  have p26 := k2.cell 6 rfl
  have p27 := k2.cell 7 rfl
  have p28 := k2.cell 8 rfl
  have HQ3 := Lib.hid (HQ2.out.trans (hq2.alloc (.cells #[.slice e1 1 e2, .slice f1 1 f2, .slice g1 2 g2, .slice h1 1 h2, .int .i64 0, .int .i64 0, .int .i64 1, .int .i64 0, .int .i64 0] 39)))
  have HP := Lib.hid (liv2_print _ _ _ (HPV.out.q ((Q.refl w2).alloc (.cells #[.slice e1 1 e2, .slice f1 1 f2, .slice g1 2 g2, .slice h1 1 h2, .int .i64 0, .int .i64 0, .int .i64 1, .int .i64 0, .int .i64 0] 39))))
  clear ha hb hc hd k1 k2 hq2 HPV
  go_wp2_with fail
  refine (HP.out).mono ?_
  rintro e w3 ⟨rfl, hq3⟩
  have HQ4 := Lib.hid (HQ3.out.trans hq3)
  have he := eq_liv
  clear hq3
  go_wp2_with fail
  go_ret
  exact ⟨rfl, HQ4.out⟩
end Pg
end Go.Proofs.YtjloibgjnnknnaaDoor
