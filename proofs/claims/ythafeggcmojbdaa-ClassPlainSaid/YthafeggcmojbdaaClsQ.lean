/- The plain lists that a statement makes. -/
import Derived.Test.YthafeggcmojbdaaRows
import Derived.Test.YthafeggcmojbdaaUtfM
import Derived.Test.YthafeggcmojbdaaUtfG
import Derived.Test.YthafeggcmojbdaaClsM
import Derived.Test.YthafeggcmojbdaaInts
set_option linter.unusedVariables false
set_option linter.unusedSimpArgs false
namespace Go.Proofs.Ythafeggcmojbdaa
open Go.RowKit Cm Um

set_option maxHeartbeats 800000 in
theorem plainL_any (v : Value) (xs : List Int) (w : World) (hv : Lst w v xs) (hx : xs.length ≤ 1073741824) (hb : ∀ n ∈ xs, -9223372036854775808 ≤ n ∧ n ≤ 9223372036854775807) :
    Calls Try.prog 21 #[v] w fun e w' => ∃ u, e = .returned u ∧ Own w' w.heap.size u (plG 0 xs) ∧ Q w w' := by
  obtain ⟨a, cp, rfl⟩ := hv.shape
  obtain ⟨n, hn⟩ : ∃ n, n = xs.length := ⟨_, rfl⟩
  rw [← hn] at hv hx ⊢
  have HN := Lib.hid hn
  have HB := Lib.hid hb
  clear hn hb
  go_enter Try.func21, Try.ntmps21
  go_wp2_with fail
  go_loopw [3, 4] (fun u i wr => ∃ j : Nat, i = .int .i64 j ∧ j ≤ n ∧ Own wr w.heap.size u (plG 0 (xs.take j)) ∧ Q w wr) (fun _ i _ => n - (intOf i).toNat)
  case atStart => exact ⟨0, rfl, by omega, Own.nil _ _, Q.refl _⟩
  case round =>
    obtain ⟨j, rfl, hj, hown, hq⟩ := hrel
    have hqs := hq.le
    by_cases hlt : j < n
    · obtain ⟨g, off, cap, hvv, hg, _, _, hca⟩ := hv.cellOf HN.out.symm hlt
      cases hvv
      have hly : j < xs.length := by rw [← HN.out]; exact hlt
      have c1 : wr.cell? ⟨g, off + j, none⟩ = some (.int .i64 (xs.getD j 0)) := (World.cell?_of_block (w := w) (hq.block hg)).trans hca
      have hpb := HB.out (xs.getD j 0) (by rw [List.getD_eq_getElem?_getD, List.getElem?_eq_getElem hly]; exact List.getElem_mem hly)
      have HT := Lib.hid (plG_take xs j hly)
      have hml : (plG 0 (xs.take j)).length < 1099511627776 := by rw [plG_length, List.length_take]; omega
      clear hca
      obtain ⟨c, hc⟩ : ∃ c, c = xs.getD j 0 := ⟨_, rfl⟩
      rw [← hc] at c1 HT hpb
      clear hc
      have A0 := Lib.hid (fun w => Ur.around_any c 60 w hpb.1 hpb.2 (by omega) (by omega))
      have hab := around_bd c 60 (by omega)
      have hch : chrP j c = if 25 < around c 60 ∧ 0 < j then 768 + around c 60 else 65 + around c 60 % 26 := rfl
      have HCH := Lib.hid hch
      clear hch hpb
      generalize around c 60 = m at *
      have hcase : (25 < m ∧ j = 0) ∨ (25 < m ∧ 0 < j) ∨ ¬ 25 < m := by omega
      rcases hcase with ⟨h1, rfl⟩ | ⟨h1, h2⟩ | h1
      · have HF : Hid (chrP 0 c = 65 + m % 26) := Lib.hid (by rw [HCH.out, if_neg (by omega)])
        rw [Nat.add_zero] at c1
        go_wp2_with fail
        refine (A0.out _).mono ?_
        rintro e w1 ⟨rfl, rfl⟩
        go_wp2_with (at_builtin; refine push_int hown rfl _ _ rfl _ (by rfl) (by rfl) hml hqs ?_)
        intro v2 w2 hv2 hg2 _
        go_wp2_with fail
        go_roundw
        case rel => exact ⟨0 + 1, by go_num, by omega, by rw [HT.out, HF.out]; exact hv2, hq.grown hg2 (fun g h => (hown.lt g h).1)⟩
        case measure => simp [intOf]; omega
      · have HF : Hid (chrP j c = 768 + m) := Lib.hid (by rw [HCH.out, if_pos ⟨h1, h2⟩])
        go_wp2_with fail
        refine (A0.out _).mono ?_
        rintro e w1 ⟨rfl, rfl⟩
        go_wp2_with (at_builtin; refine push_int hown rfl _ _ rfl _ (by rfl) (by rfl) hml hqs ?_)
        intro v2 w2 hv2 hg2 _
        go_wp2_with fail
        go_roundw
        case rel => exact ⟨j + 1, by go_num, by omega, by rw [HT.out, HF.out]; exact hv2, hq.grown hg2 (fun g h => (hown.lt g h).1)⟩
        case measure => simp [intOf]; omega
      · have HF : Hid (chrP j c = 65 + m % 26) := Lib.hid (by rw [HCH.out, if_neg (by omega)])
        go_wp2_with fail
        refine (A0.out _).mono ?_
        rintro e w1 ⟨rfl, rfl⟩
        go_wp2_with (at_builtin; refine push_int hown rfl _ _ rfl _ (by rfl) (by rfl) hml hqs ?_)
        intro v2 w2 hv2 hg2 _
        go_wp2_with fail
        go_roundw
        case rel => exact ⟨j + 1, by go_num, by omega, by rw [HT.out, HF.out]; exact hv2, hq.grown hg2 (fun g h => (hown.lt g h).1)⟩
        case measure => simp [intOf]; omega
    · have hke : xs.take j = xs := List.take_of_length_le (by rw [← HN.out]; omega)
      rw [hke] at hown
      clear hke
      go_wp2_with fail
      go_ret
      exact ⟨_, rfl, hown, hq⟩

end Go.Proofs.Ythafeggcmojbdaa
