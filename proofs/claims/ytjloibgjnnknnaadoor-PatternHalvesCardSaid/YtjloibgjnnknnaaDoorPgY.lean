/- Texts made of any, as the program parses them. Our own work. -/
import Derived.Test.YtjloibgjnnknnaaDoorRows
import Derived.Test.YtjloibgjnnknnaaDoorUtfM
import Derived.Test.YtjloibgjnnknnaaDoorUtfW
import Derived.Test.YtjloibgjnnknnaaDoorPcs
import Derived.Test.YtjloibgjnnknnaaDoorPatM
import Derived.Test.YtjloibgjnnknnaaDoorPatN
import Derived.Test.YtjloibgjnnknnaaDoorPgA
import Derived.Test.YtjloibgjnnknnaaDoorPgJ
import Derived.Test.YtjloibgjnnknnaaDoorPgL
import Derived.Test.YtjloibgjnnknnaaDoorPgO
import Derived.Test.YtjloibgjnnknnaaDoorPgS
import Derived.Test.YtjloibgjnnknnaaDoorPgT
import Derived.Test.YtjloibgjnnknnaaDoorTxM
set_option linter.unusedVariables false
set_option linter.unusedSimpArgs false
namespace Go.Proofs.YtjloibgjnnknnaaDoor
open Go.RowKit
namespace Pg
open Pt Um Tx

theorem out_len (cs : List Int) : ∀ q p l q' p', outS q p cs = some (l, q', p') → l.length ≤ cs.length := by
  induction cs with
  | nil => intro q p l q' p' h; simp [outS] at h; obtain ⟨rfl, _⟩ := h; simp
  | cons c r ih =>
    intro q p l q' p' h
    rw [outS_cons] at h
    split at h
    · split at h
      · obtain ⟨⟨m, a, b⟩, hm, he⟩ := Option.map_eq_some_iff.1 h
        simp only [Prod.mk.injEq] at he
        obtain ⟨rfl, rfl, rfl⟩ := he
        have := ih _ _ _ _ _ hm
        simp only [List.length_cons]; omega
      · have := ih _ _ _ _ _ h
        simp only [List.length_cons]; omega
    · split at h
      · obtain ⟨⟨m, a, b⟩, hm, he⟩ := Option.map_eq_some_iff.1 h
        simp only [Prod.mk.injEq] at he
        obtain ⟨rfl, rfl, rfl⟩ := he
        have := ih _ _ _ _ _ hm
        simp only [List.length_cons]; omega
      · split at h
        · cases h
        · obtain ⟨⟨m, a, b⟩, hm, he⟩ := Option.map_eq_some_iff.1 h
          simp only [Prod.mk.injEq] at he
          obtain ⟨rfl, rfl, rfl⟩ := he
          have := ih _ _ _ _ _ hm
          simp only [List.length_cons]; omega
theorem sgn_vl : ∀ x, x < 10 → ∀ c ∈ sgn.getD x [], vld c = true := by decide +kernel
theorem sgL_vl (l : List Int) : Vl (sgL l) := by
  intro c hc
  unfold sgL at hc
  obtain ⟨n, _, hn⟩ := List.mem_flatMap.1 hc
  have hb := around_bd n 10 (by decide)
  exact sgn_vl _ (by omega) c hn
theorem nmB_vl {c : Int} (h : nmB c = true) : vld c = true := by
  simp only [nmB, Bool.or_eq_true, beq_iff_eq] at h
  rcases h with ((rfl | rfl) | rfl) | rfl <;> decide +kernel
theorem vl_app {a b : List Int} (ha : Vl a) (hb : Vl b) : Vl (a ++ b) := fun c hc => by
  rcases List.mem_append.1 hc with h | h
  · exact ha c h
  · exact hb c h
theorem hfT_vl (pre suf : List Int) {z p q a b : Nat} (hz : z < 7) (hp : p < 5) (hq : q < 5) (ha : a < 4) (hb : b < 4) : Vl (hfT pre suf z p q a b) ∧ (hfT pre suf z p q a b).length ≤ 100 := by
  obtain ⟨_, h2, _, h4⟩ := nmT_ok hz hp hq ha hb
  refine ⟨?_, ?_⟩
  · unfold hfT
    exact vl_app (vl_app (sgL_vl _) fun c hc => nmB_vl (h2 c hc)) (sgL_vl _)
  · have h1 := sgL_len pre
    have h3 := sgL_len suf
    unfold hfT
    rw [List.length_append, List.length_append]
    omega
theorem sB_joinL {L : List Int} (h : Vl L) : sB L = ⟨(joinL L).toArray⟩ := by unfold sB; rw [joinL_encL L h]
theorem lenPNS {P N S : List (Int × Int)} {k : Nat} (h : (P ++ N ++ S).length ≤ k) : (joinT [] P).length ≤ k ∧ (joinT [] S).length ≤ k ∧ N.length ≤ k := by
  have h1 := joinT_le P
  have h2 := joinT_le S
  simp only [List.length_append] at h
  omega
/-- One half, parsed. -/
theorem ph1 (pre suf : List Int) {z p q a b : Nat} (hz : z < 7) (hp : p < 5) (hq : q < 5) (ha : a < 4) (hb : b < 4) (w : World) :
    Calls Tryd.prog 15 #[.string (sB (hfT pre suf z p q a b))] w fun e w' => ∃ v, e = .returned (.tuple #[v, .int .i64 0]) ∧ PV w' w.heap.size v (parseC (hfT pre suf z p q a b)).1 ∧ Q w w' := by
  obtain ⟨P, N, S, c, ho, hv, hN, hN1⟩ := hfT_out pre suf hz hp hq ha hb
  obtain ⟨h1, h2⟩ := hfT_vl pre suf hz hp hq ha hb
  have hl := out_len _ _ _ _ _ _ ho
  obtain ⟨_, _, h3⟩ := lenPNS (Nat.le_trans hl h2)
  rw [sB_joinL h1]
  exact parse1 h1 (by omega) ho hv hN1 (by omega) (by rw [hN]; exact nmT_okPr hz hp hq ha hb) w
theorem ps1 (pre suf : List Int) {z p q a b : Nat} (hz : z < 7) (hp : p < 5) (hq : q < 5) (ha : a < 4) (hb : b < 4) :
    PS (parseC (hfT pre suf z p q a b)).1 ∧ (parseC (hfT pre suf z p q a b)).1.npre = (3, []) :: (parseC (hfT pre suf z p q a b)).1.pre := by
  obtain ⟨P, N, S, c, ho, hv, hN, hN1⟩ := hfT_out pre suf hz hp hq ha hb
  obtain ⟨⟨n, hn, hlo⟩, _⟩ := nmT_ok hz hp hq ha hb
  obtain ⟨h1, h2⟩ := hfT_vl pre suf hz hp hq ha hb
  have hl := out_len _ _ _ _ _ _ ho
  obtain ⟨h3, h4, h5⟩ := lenPNS (Nat.le_trans hl h2)
  have ht : tkn (hfT pre suf z p q a b) = some (P ++ N ++ S) := by
    unfold tkn
    rw [tok_out, ho]; simp
  rw [← hN] at hn
  unfold parseC
  rw [ht]
  simp only [parse_one hv hN1 hn hlo, mkP]
  refine ⟨⟨?_, ?_, ?_, ?_⟩, trivial⟩
  · show (joinT [] P).length ≤ _; omega
  · show (joinT [] S).length ≤ _; omega
  · show ((3, []) :: joinT [] P).length ≤ _; rw [List.length_cons]; omega
  · show (joinT [] S).length ≤ _; omega
/-- Two halves, parsed. -/
theorem ph2 (pre suf : List Int) {z p q a b : Nat} (hz : z < 7) (hp : p < 5) (hq : q < 5) (ha : a < 4) (hb : b < 4) {T : List Int} (hTv : Vl T) (hTl : T.length ≤ 200) {P' N' S' : List (Int × Int)} {d : Bool} (ho' : outS false false T = some (P' ++ N' ++ S', d, d)) (hv' : Hv P' N' S') (hN' : 1 ≤ N'.length) (hp' : okPr (N'.map (·.2)) = true) :
    (∀ w, Calls Tryd.prog 15 #[.string (sB (hfT pre suf z p q a b ++ 59 :: T))] w fun e w' => ∃ v, e = .returned (.tuple #[v, .int .i64 0]) ∧ PV w' w.heap.size v (parseC (hfT pre suf z p q a b ++ 59 :: T)).1 ∧ Q w w') ∧ PS (parseC (hfT pre suf z p q a b ++ 59 :: T)).1 := by
  obtain ⟨P, N, S, c, ho, hv, hN, hN1⟩ := hfT_out pre suf hz hp hq ha hb
  obtain ⟨⟨n, hn, hlo⟩, _⟩ := nmT_ok hz hp hq ha hb
  obtain ⟨n', b', hn', _, hlo', _⟩ := okPr_of hp'
  obtain ⟨h1, h2⟩ := hfT_vl pre suf hz hp hq ha hb
  have hl := out_len _ _ _ _ _ _ ho
  have hl' := out_len _ _ _ _ _ _ ho'
  obtain ⟨h3, h4, h5⟩ := lenPNS (Nat.le_trans hl h2)
  obtain ⟨h3', h4', h5'⟩ := lenPNS (Nat.le_trans hl' hTl)
  have hvc : Vl (hfT pre suf z p q a b ++ 59 :: T) := vl_app h1 fun c hc => by
    rcases List.mem_cons.1 hc with rfl | hc
    · decide +kernel
    · exact hTv c hc
  have hoc : outS false false (hfT pre suf z p q a b ++ 59 :: T) = some (P ++ N ++ S ++ (5, 59) :: (P' ++ N' ++ S'), d, d) := by
    rw [out_append, ho]
    have : outS c c (59 :: T) = some ((5, 59) :: (P' ++ N' ++ S'), d, d) := by
      rw [outS_cons, if_neg (by decide), if_neg (by simp), if_neg (by decide), ho']; rfl
    simp [this]
  refine ⟨fun w => ?_, ?_⟩
  · rw [sB_joinL hvc]
    exact parse2 hvc (by rw [List.length_append, List.length_cons]; omega) hoc hv hN1 (by omega) (by rw [hN]; exact nmT_okPr hz hp hq ha hb) hv' hN' (by omega) hp' w
  · have ht : tkn (hfT pre suf z p q a b ++ 59 :: T) = some (P ++ N ++ S ++ (5, 59) :: (P' ++ N' ++ S')) := by
      unfold tkn
      rw [tok_out, hoc]; simp
    rw [← hN] at hn
    unfold parseC
    rw [ht]
    simp only [parse_two hv hN1 hn hlo hv' hN' hn' hlo', mkP]
    refine ⟨?_, ?_, ?_, ?_⟩
    · show (joinT [] P).length ≤ _; omega
    · show (joinT [] S).length ≤ _; omega
    · show (joinT [] P').length ≤ _; omega
    · show (joinT [] S').length ≤ _; omega
/-- A text made of any, parsed. -/
theorem text_parse (pre suf np ns : List Int) (two : Bool) {z p q a b : Nat} (hz : z < 7) (hp : p < 5) (hq : q < 5) (ha : a < 4) (hb : b < 4) :
    (∀ w, Calls Tryd.prog 15 #[.string (sB (hfT pre suf z p q a b ++ twoT two np ns))] w fun e w' => ∃ v, e = .returned (.tuple #[v, .int .i64 0]) ∧ PV w' w.heap.size v (parseC (hfT pre suf z p q a b ++ twoT two np ns)).1 ∧ Q w w') ∧ PS (parseC (hfT pre suf z p q a b ++ twoT two np ns)).1 := by
  cases two with
  | false =>
    have e : hfT pre suf z p q a b ++ twoT false np ns = hfT pre suf z p q a b := by simp [twoT]
    rw [e]
    exact ⟨fun w => ph1 pre suf hz hp hq ha hb w, (ps1 pre suf hz hp hq ha hb).1⟩
  | true =>
    have e : hfT pre suf z p q a b ++ twoT true np ns = hfT pre suf z p q a b ++ 59 :: (sgL np ++ [48] ++ sgL ns) := by simp [twoT]
    rw [e]
    obtain ⟨P', c1, h4, h5⟩ := sgL_out np false
    obtain ⟨S', c2, h6, h7⟩ := sgL_out ns false
    refine ph2 pre suf hz hp hq ha hb (vl_app (vl_app (sgL_vl _) (by decide +kernel)) (sgL_vl _)) ?_ (P' := P') (N' := [(4, 48)]) (S' := S') (d := c2) ?_ ⟨h5, h7, fun x hx => by rw [List.mem_singleton.1 hx]⟩ (by decide) (by decide +kernel)
    · have h1 := sgL_len np
      have h3 := sgL_len ns
      simp only [List.length_append, List.length_cons, List.length_nil]
      omega
    · rw [out_append, out_append, h4]
      have := signs_out c1 [48] (by decide +kernel) (by decide)
      simp [this, h6]
end Pg
end Go.Proofs.YtjloibgjnnknnaaDoor
