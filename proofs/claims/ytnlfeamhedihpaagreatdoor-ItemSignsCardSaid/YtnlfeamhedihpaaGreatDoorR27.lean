/- Halves, as the program tells them: the document's numbers are the program's. Our own work. (and more) -/
import Derived.Test.YtnlfeamhedihpaaGreatDoorR00
import Derived.Test.YtnlfeamhedihpaaGreatDoorR02
import Derived.Test.YtnlfeamhedihpaaGreatDoorR03
import Derived.Test.YtnlfeamhedihpaaGreatDoorR01
import Derived.Test.YtnlfeamhedihpaaGreatDoorR09
import Derived.Test.YtnlfeamhedihpaaGreatDoorR12
import Derived.Test.YtnlfeamhedihpaaGreatDoorR14
import Derived.Test.YtnlfeamhedihpaaGreatDoorR11
import Derived.Test.YtnlfeamhedihpaaGreatDoorR16
import Derived.Test.YtnlfeamhedihpaaGreatDoorR17
import Derived.Test.YtnlfeamhedihpaaGreatDoorR19
import Derived.Test.YtnlfeamhedihpaaGreatDoorR26
import Derived.Test.YtnlfeamhedihpaaGreatDoorR15
import Derived.Test.YtnlfeamhedihpaaGreatDoorRows
import Derived.Test.YtnlfeamhedihpaaGreatDoorR05
import Derived.Test.YtnlfeamhedihpaaGreatDoorR22
import Derived.Deep.QuietTactic
import Derived.BigQuiet
set_option linter.unusedVariables false
set_option linter.unusedSimpArgs false
namespace Go.Proofs.YtnlfeamhedihpaaGreatDoor
open Go.RowKit
namespace Pg
open Pt Um
def okPr (cs : List Int) : Bool := match num cs, prN (cs.flatMap encL) with
  | some n, some b => n.pr == b.p && n.se == b.s && n.mi == b.mi && n.mf == b.mf && n.xf == b.xf && decide (b.xi ≤ 64) && decide (b.xf ≤ 64) && !n.long
  | _, _ => false
theorem okPr_of {cs : List Int} (h : okPr cs = true) : ∃ (n : Nm) (b : Nb), num cs = some n ∧ prN (cs.flatMap encL) = some b ∧ n.long = false ∧ ¬ b.long ∧ n.pr = b.p ∧ n.se = b.s ∧ n.mi = b.mi ∧ n.mf = b.mf ∧ n.xf = b.xf := by
  unfold okPr at h
  split at h
  · rename_i n b h1 h2
    simp only [Bool.and_eq_true, beq_iff_eq, decide_eq_true_eq, Bool.not_eq_true'] at h
    obtain ⟨⟨⟨⟨⟨⟨⟨e1, e2⟩, e3⟩, e4⟩, e5⟩, e6⟩, e7⟩, e8⟩ := h
    exact ⟨n, b, h1, h2, e8, by unfold Nb.long; omega, e1, e2, e3, e4, e5⟩
  · cases h
theorem ah_app {f : Int × Int → Bool} {a b : List (Int × Int)} (ha : ∀ x ∈ a, f x = true) (hb : b = [] ∨ ∃ x r, b = x :: r ∧ f x = false) : ah f (a ++ b) = a.length := by
  have h := (Pt.tw_all (f := f) (b := b) ha).1
  unfold ah
  rw [h]
  rcases hb with rfl | ⟨x, r, rfl, hx⟩
  · simp
  · simp [List.takeWhile_cons, hx]
theorem ah_hv {P N S : List (Int × Int)} (h : Hv P N S) (hN : 1 ≤ N.length) : ah ntN (P ++ N ++ S) = P.length ∧ (P ++ N ++ S).drop P.length = N ++ S ∧ ah isN (N ++ S) = N.length := by
  have hNn : ∀ x ∈ N, isN x = true := fun x hx => by unfold isN; rw [h.n x hx]; rfl
  refine ⟨?_, by rw [List.append_assoc, List.drop_left], ?_⟩
  · rw [List.append_assoc]
    refine ah_app (fun x hx => by unfold ntN; rw [okT_isN h.p x hx]; rfl) (.inr ?_)
    cases N with
    | nil => simp at hN
    | cons x r => exact ⟨x, r ++ S, rfl, by unfold ntN; rw [hNn x List.mem_cons_self]; rfl⟩
  · refine ah_app hNn ?_
    cases S with
    | nil => exact .inl rfl
    | cons x r => exact .inr ⟨x, r, rfl, okT_isN h.s x List.mem_cons_self⟩
theorem hv_kinds {P N S : List (Int × Int)} (h : Hv P N S) : ∀ x ∈ P ++ N ++ S, x.1 ≤ 4 := by
  intro x hx
  rcases List.mem_append.1 hx with hx | hx
  · rcases List.mem_append.1 hx with hx | hx
    · have := h.p x hx; omega
    · have := h.n x hx; omega
  · have := h.s x hx; omega
theorem encL_ne {c : Int} (h : vld c = true) : encL c ≠ [] := by unfold encL; exact encB_some h
theorem out_vld (cs : List Int) : ∀ q p l q' p', Vl cs → outS q p cs = some (l, q', p') → ∀ x ∈ l, vld x.2 = true := by
  induction cs with
  | nil => intro q p l q' p' hv h; simp [outS] at h; obtain ⟨rfl, _⟩ := h; simp
  | cons c r ih =>
    intro q p l q' p' hv h
    have hr : Vl r := fun d hd => hv d (List.mem_cons_of_mem _ hd)
    have h39 : vld 39 = true := (vld_iff _).2 (by omega)
    have hc := hv c List.mem_cons_self
    rw [outS_cons] at h
    split at h
    · split at h
      · obtain ⟨⟨m, a, b⟩, hm, he⟩ := Option.map_eq_some_iff.1 h
        simp only [Prod.mk.injEq] at he
        obtain ⟨rfl, rfl, rfl⟩ := he
        intro x hx
        rcases List.mem_cons.1 hx with rfl | hx
        · exact h39
        · exact ih _ _ _ _ _ hr hm x hx
      · exact ih _ _ _ _ _ hr h
    · split at h
      · obtain ⟨⟨m, a, b⟩, hm, he⟩ := Option.map_eq_some_iff.1 h
        simp only [Prod.mk.injEq] at he
        obtain ⟨rfl, rfl, rfl⟩ := he
        intro x hx
        rcases List.mem_cons.1 hx with rfl | hx
        · exact hc
        · exact ih _ _ _ _ _ hr hm x hx
      · split at h
        · cases h
        · obtain ⟨⟨m, a, b⟩, hm, he⟩ := Option.map_eq_some_iff.1 h
          simp only [Prod.mk.injEq] at he
          obtain ⟨rfl, rfl, rfl⟩ := he
          intro x hx
          rcases List.mem_cons.1 hx with rfl | hx
          · exact hc
          · exact ih _ _ _ _ _ hr hm x hx
theorem hok_of {P N S : List (Int × Int)} (hch : ∀ x ∈ P ++ N ++ S, vld x.2 = true) (h : Hv P N S) (hN : 1 ≤ N.length) (h250 : N.length ≤ 250) (nb : Nb) (hnb : prN ((N.map (·.2)).flatMap encL) = some nb) :
    HalfOk (P ++ N ++ S) nb ∧ prP (P ++ N ++ S) = joinT [] P ∧ suP (P ++ N ++ S) = joinT [] S := by
  obtain ⟨e1, e2, e3⟩ := ah_hv h hN
  have e4 : (P ++ N ++ S).drop (P.length + N.length) = S := by
    rw [← List.drop_drop, e2, List.drop_left]
  refine ⟨⟨hv_kinds h, fun x hx => encL_ne (hch x hx), ?_, ?_, ?_, ?_⟩, ?_, ?_⟩
  · rw [e1]; simp; omega
  · rw [e1, e2, e3, e4, List.any_eq_false]
    intro x hx; rw [okT_isN h.s x hx]; simp
  · rw [e1, e2, e3, List.take_left, ← hnb, List.flatMap_map]
  · rw [e1, e2, e3]; exact h250
  · unfold prP; rw [e1, List.append_assoc, List.take_left]
  · unfold suP; rw [e1, e2, e3, e4]
theorem split_one {P N S : List (Int × Int)} (h : Hv P N S) : splitD (P ++ N ++ S) = [P ++ N ++ S] := by
  refine splitD_end _ ?_
  have := ah_app (f := ntD) (a := P ++ N ++ S) (b := []) (fun x hx => by unfold ntD; rw [h.noD x hx]; rfl) (.inl rfl)
  rwa [List.append_nil] at this
theorem split_two {P N S P' N' S' : List (Int × Int)} (h : Hv P N S) (h' : Hv P' N' S') : splitD (P ++ N ++ S ++ (5, 59) :: (P' ++ N' ++ S')) = [P ++ N ++ S, P' ++ N' ++ S'] := by
  have e := ah_app (f := ntD) (a := P ++ N ++ S) (b := (5, 59) :: (P' ++ N' ++ S')) (fun x hx => by unfold ntD; rw [h.noD x hx]; rfl) (.inr ⟨_, _, rfl, rfl⟩)
  have hc := splitD_cut (P ++ N ++ S ++ (5, 59) :: (P' ++ N' ++ S')) (by rw [e]; simp)
  rw [e, List.take_left, ← List.drop_drop, List.drop_left] at hc
  rw [hc]
  simp only [List.drop_succ_cons, List.drop_zero, split_one h']
theorem parse1 {cs : List Int} (hv : Vl cs) (hz : cs.length ≤ 10000) {P N S : List (Int × Int)} {c : Bool} (ho : outS false false cs = some (P ++ N ++ S, c, c)) (h : Hv P N S) (hN : 1 ≤ N.length) (h250 : N.length ≤ 250) (hp : okPr (N.map (·.2)) = true) (w : World) :
    Calls Tryz.prog 46 #[.string ⟨(joinL cs).toArray⟩] w fun e w' => ∃ v, e = .returned (.tuple #[v, .int .i64 0]) ∧ PV w' w.heap.size v (parseC cs).1 ∧ Q w w' := by
  obtain ⟨n, b, h1, h2, h3, h4, h5, h6, h7, h8, h9⟩ := okPr_of hp
  obtain ⟨k1, k2, k3⟩ := hok_of (out_vld _ _ _ _ _ _ hv ho) h hN h250 b h2
  have ht : tkn cs = some (P ++ N ++ S) := by
    unfold tkn
    rw [tok_out, ho]
    simp
  have hpc : (parseC cs).1 = patOf [(P ++ N ++ S, b)] := by
    unfold parseC
    rw [ht]
    simp only [parse_one h hN h1 h3, patOf, k2, k3, mkP, h5, h6, h7, h8, h9]
  rw [hpc]
  refine parse_ok _ w _ fun u hu => ?_
  refine (read_any ⟨(joinL cs).toArray⟩ u ?_ (okL_join cs hv) (P ++ N ++ S) ?_ [(P ++ N ++ S, b)] (split_one h) (fun x hx => by rw [List.mem_singleton.1 hx]; exact k1) (by simp) (by simp)).mono ?_
  · have := joinL_length cs
    simp only [ByteArray.size, List.size_toArray]; omega
  · rw [allL_join cs hv]; exact tok_q _ _ _ _ ht
  · rintro e w' ⟨hq, ⟨⟨x, hx, hxl⟩, _⟩ | ⟨_, v, hv, hpv⟩⟩
    · rw [List.mem_singleton.1 hx] at hxl; exact absurd hxl h4
    · exact ⟨hq, v, hv, hpv⟩
theorem parse2 {cs : List Int} (hv : Vl cs) (hz : cs.length ≤ 10000) {P N S P' N' S' : List (Int × Int)} {c : Bool} (ho : outS false false cs = some (P ++ N ++ S ++ (5, 59) :: (P' ++ N' ++ S'), c, c)) (h : Hv P N S) (hN : 1 ≤ N.length) (h250 : N.length ≤ 250) (hp : okPr (N.map (·.2)) = true)
    (h' : Hv P' N' S') (hN' : 1 ≤ N'.length) (h250' : N'.length ≤ 250) (hp' : okPr (N'.map (·.2)) = true) (w : World) :
    Calls Tryz.prog 46 #[.string ⟨(joinL cs).toArray⟩] w fun e w' => ∃ v, e = .returned (.tuple #[v, .int .i64 0]) ∧ PV w' w.heap.size v (parseC cs).1 ∧ Q w w' := by
  obtain ⟨n, b, h1, h2, h3, h4, h5, h6, h7, h8, h9⟩ := okPr_of hp
  obtain ⟨n', b', h1', h2', h3', h4', _⟩ := okPr_of hp'
  have hch := out_vld _ _ _ _ _ _ hv ho
  obtain ⟨k1, k2, k3⟩ := hok_of (fun x hx => hch x (List.mem_append_left _ hx)) h hN h250 b h2
  obtain ⟨k1', k2', k3'⟩ := hok_of (fun x hx => hch x (List.mem_append_right _ (List.mem_cons_of_mem _ hx))) h' hN' h250' b' h2'
  have ht : tkn cs = some (P ++ N ++ S ++ (5, 59) :: (P' ++ N' ++ S')) := by
    unfold tkn
    rw [tok_out, ho]
    simp
  have hpc : (parseC cs).1 = patOf [(P ++ N ++ S, b), (P' ++ N' ++ S', b')] := by
    unfold parseC
    rw [ht]
    simp only [parse_two h hN h1 h3 h' hN' h1' h3', patOf, k2, k3, k2', k3', mkP, h5, h6, h7, h8, h9]
  rw [hpc]
  refine parse_ok _ w _ fun u hu => ?_
  refine (read_any ⟨(joinL cs).toArray⟩ u ?_ (okL_join cs hv) _ ?_ [(P ++ N ++ S, b), (P' ++ N' ++ S', b')] (split_two h h') (fun x hx => by
    rcases List.mem_cons.1 hx with rfl | hx
    · exact k1
    · rw [List.mem_singleton.1 hx]; exact k1') (by simp) (by simp)).mono ?_
  · have := joinL_length cs
    simp only [ByteArray.size, List.size_toArray]; omega
  · rw [allL_join cs hv]; exact tok_q _ _ _ _ ht
  · rintro e w' ⟨hq, ⟨⟨x, hx, hxl⟩, _⟩ | ⟨_, v, hv, hpv⟩⟩
    · simp at hx
      rcases hx with rfl | rfl
      · exact absurd hxl h4
      · exact absurd hxl h4'
    · exact ⟨hq, v, hv, hpv⟩
end Pg
end Go.Proofs.YtnlfeamhedihpaaGreatDoor
namespace Go.Proofs.YtnlfeamhedihpaaGreatDoor
open Go.RowKit
namespace Lo
open Um Cm Gm
set_option maxHeartbeats 1000000 in
theorem idxL (g : Nat) (fst cap : Array Value) (eg : ∀ args w, (callFunc g args).run Tryz.prog w = .ok (.enter g args) w) (v : Value) (vs : List Value) (w : World) (hv : GLst id w v vs) (hx : vs.length ≤ 1000000)
    (hp : ∀ (k : Nat) (x : Value), vs[k]? = some x → ∀ u, Q w u → Calls Tryz.prog g (fst ++ #[x] ++ cap) u fun e w' => e = .returned (.bool false) ∧ Q u w') :
    Calls Tryz.prog 128 #[v, .func (.func g) fst cap] w fun e w' => e = .returned (.int .i64 (-1)) ∧ Q w w' := by
  obtain ⟨n, hn⟩ : ∃ n, n = vs.length := ⟨_, rfl⟩
  have HN := Lib.hid hn
  have HV := Lib.hid hv
  have HP := Lib.hid hp
  obtain ⟨a, cp, rfl, hc1, hc2⟩ := hv.form0 hn.symm
  rw [← hn] at hx
  clear hn hv hp
  go_enter Tryz.func128, Tryz.ntmps128
  go_wp2_with fail
  go_loopw [8] (fun i wr => ∃ k : Nat, i = .int .i64 k ∧ k ≤ n ∧ Q w wr) (fun i _ => n - (intOf i).toNat)
  case atStart => exact ⟨0, rfl, by omega, Q.refl _⟩
  case round =>
    obtain ⟨k, rfl, hk, hq⟩ := hrel
    by_cases hlt : k < n
    · have hlti : (k : Int) < (n : Int) := by omega
      have hkl : k < vs.length := by have := HN.out; omega
      obtain ⟨x, hx2⟩ : ∃ x, vs[k]? = some x := ⟨vs[k], List.getElem?_eq_getElem hkl⟩
      obtain ⟨gg, off, cp', hvv, hg, _, _, c1⟩ := (HV.out.q hq).cellOf HN.out.symm hx2
      cases hvv
      have hc := HP.out k x hx2 wr hq
      clear hx2
      go_wp2_with (go_at_fn g; refine hc.mono ?_; rintro e w' ⟨rfl, hq'⟩)
      exact ⟨⟨k + 1, by go_num, by omega, hq.trans hq'⟩, by simp [intOf]; omega⟩
    · have hnlt : ¬ (k : Int) < (n : Int) := by omega
      go_wp2_with fail
      go_ret
      exact ⟨rfl, hq⟩
theorem noL (g : Nat) (fst cap : Array Value) (eg : ∀ args w, (callFunc g args).run Tryz.prog w = .ok (.enter g args) w) (v : Value) (vs : List Value) (w : World) (hv : GLst id w v vs) (hx : vs.length ≤ 1000000)
    (hp : ∀ (k : Nat) (x : Value), vs[k]? = some x → ∀ u, Q w u → Calls Tryz.prog g (fst ++ #[x] ++ cap) u fun e w' => e = .returned (.bool false) ∧ Q u w') :
    Calls Tryz.prog 86 #[v, .func (.func g) fst cap] w fun e w' => e = .returned (.bool false) ∧ Q w w' := by
  have HI := Lib.hid (idxL g fst cap eg v vs w hv hx hp)
  obtain ⟨a, cp, rfl⟩ := hv.shape
  generalize vs.length = n at *
  clear hv hx hp eg
  go_enter Tryz.func86, Tryz.ntmps86
  go_wp2_with fail
  refine HI.out.mono ?_
  rintro e w' ⟨rfl, hq'⟩
  go_wp2_with fail
  go_ret
  exact ⟨rfl, hq'⟩
set_option maxHeartbeats 1000000 in
theorem idxS (g : Nat) (fst cap : Array Value) (eg : ∀ args w, (callFunc g args).run Tryz.prog w = .ok (.enter g args) w) (v : Value) (vs : List ByteArray) (w : World) (hv : SLst w v vs) (hx : vs.length ≤ 1000000)
    (hp : ∀ (k : Nat) (x : ByteArray), vs[k]? = some x → ∀ u, Q w u → Calls Tryz.prog g (fst ++ #[.string x] ++ cap) u fun e w' => e = .returned (.bool false) ∧ Q u w') :
    Calls Tryz.prog 134 #[v, .func (.func g) fst cap] w fun e w' => e = .returned (.int .i64 (-1)) ∧ Q w w' := by
  obtain ⟨n, hn⟩ : ∃ n, n = vs.length := ⟨_, rfl⟩
  have HN := Lib.hid hn
  have HV := Lib.hid hv
  have HP := Lib.hid hp
  obtain ⟨a, cp, rfl, hc1, hc2⟩ := hv.form0 hn.symm
  rw [← hn] at hx
  clear hn hv hp
  go_enter Tryz.func134, Tryz.ntmps134
  go_wp2_with fail
  go_loopw [8] (fun i wr => ∃ k : Nat, i = .int .i64 k ∧ k ≤ n ∧ Q w wr) (fun i _ => n - (intOf i).toNat)
  case atStart => exact ⟨0, rfl, by omega, Q.refl _⟩
  case round =>
    obtain ⟨k, rfl, hk, hq⟩ := hrel
    by_cases hlt : k < n
    · have hlti : (k : Int) < (n : Int) := by omega
      have hkl : k < vs.length := by have := HN.out; omega
      obtain ⟨x, hx2⟩ : ∃ x, vs[k]? = some x := ⟨vs[k], List.getElem?_eq_getElem hkl⟩
      obtain ⟨gg, off, cp', hvv, hg, _, _, c1⟩ := (HV.out.q hq).cellOf HN.out.symm hx2
      cases hvv
      have hc := HP.out k x hx2 wr hq
      clear hx2
      go_wp2_with (go_at_fn g; refine hc.mono ?_; rintro e w' ⟨rfl, hq'⟩)
      exact ⟨⟨k + 1, by go_num, by omega, hq.trans hq'⟩, by simp [intOf]; omega⟩
    · have hnlt : ¬ (k : Int) < (n : Int) := by omega
      go_wp2_with fail
      go_ret
      exact ⟨rfl, hq⟩
theorem noS (g : Nat) (fst cap : Array Value) (eg : ∀ args w, (callFunc g args).run Tryz.prog w = .ok (.enter g args) w) (v : Value) (vs : List ByteArray) (w : World) (hv : SLst w v vs) (hx : vs.length ≤ 1000000)
    (hp : ∀ (k : Nat) (x : ByteArray), vs[k]? = some x → ∀ u, Q w u → Calls Tryz.prog g (fst ++ #[.string x] ++ cap) u fun e w' => e = .returned (.bool false) ∧ Q u w') :
    Calls Tryz.prog 96 #[v, .func (.func g) fst cap] w fun e w' => e = .returned (.bool false) ∧ Q w w' := by
  have HI := Lib.hid (idxS g fst cap eg v vs w hv hx hp)
  obtain ⟨a, cp, rfl⟩ := hv.shape
  generalize vs.length = n at *
  clear hv hx hp eg
  go_enter Tryz.func96, Tryz.ntmps96
  go_wp2_with fail
  refine HI.out.mono ?_
  rintro e w' ⟨rfl, hq'⟩
  go_wp2_with fail
  go_ret
  exact ⟨rfl, hq'⟩
set_option maxHeartbeats 1000000 in
theorem idxP (g : Nat) (fst cap : Array Value) (eg : ∀ args w, (callFunc g args).run Tryz.prog w = .ok (.enter g args) w) (v : Value) (vs : List Pc.E) (w : World) (hv : Pc.LstP w v vs) (hx : vs.length ≤ 1000000)
    (hp : ∀ (k : Nat) (x : Pc.E), vs[k]? = some x → ∀ u, Q w u → Calls Tryz.prog g (fst ++ #[.agg #[.int .i64 x.1, Pc.txt x.2]] ++ cap) u fun e w' => e = .returned (.bool false) ∧ Q u w') :
    Calls Tryz.prog 158 #[v, .func (.func g) fst cap] w fun e w' => e = .returned (.int .i64 (-1)) ∧ Q w w' := by
  obtain ⟨n, hn⟩ : ∃ n, n = vs.length := ⟨_, rfl⟩
  have HN := Lib.hid hn
  have HV := Lib.hid hv
  have HP := Lib.hid hp
  obtain ⟨a, cp, rfl, hc1, hc2⟩ := hv.form0 hn.symm
  rw [← hn] at hx
  clear hn hv hp
  go_enter Tryz.func158, Tryz.ntmps158
  go_wp2_with fail
  go_loopw [8] (fun i wr => ∃ k : Nat, i = .int .i64 k ∧ k ≤ n ∧ Q w wr) (fun i _ => n - (intOf i).toNat)
  case atStart => exact ⟨0, rfl, by omega, Q.refl _⟩
  case round =>
    obtain ⟨k, rfl, hk, hq⟩ := hrel
    by_cases hlt : k < n
    · have hlti : (k : Int) < (n : Int) := by omega
      have hkl : k < vs.length := by have := HN.out; omega
      obtain ⟨gg, off, cp', hvv, hg, _, _, c1, c2⟩ := (HV.out.q hq).cellOf HN.out.symm hlt
      cases hvv
      obtain ⟨x, hxg⟩ : ∃ x, x = vs.getD k (0, []) := ⟨_, rfl⟩
      have hx2 : vs[k]? = some x := by rw [hxg, List.getD_eq_getElem?_getD, List.getElem?_eq_getElem hkl]; rfl
      rw [← hxg] at c1 c2
      have hc := HP.out k x hx2 wr hq
      unfold Pc.txt at c2 hc
      clear hx2 hxg
      go_wp2_with (go_at_fn g; refine hc.mono ?_; rintro e w' ⟨rfl, hq'⟩)
      exact ⟨⟨k + 1, by go_num, by omega, hq.trans hq'⟩, by simp [intOf]; omega⟩
    · have hnlt : ¬ (k : Int) < (n : Int) := by omega
      go_wp2_with fail
      go_ret
      exact ⟨rfl, hq⟩
theorem noP (g : Nat) (fst cap : Array Value) (eg : ∀ args w, (callFunc g args).run Tryz.prog w = .ok (.enter g args) w) (v : Value) (vs : List Pc.E) (w : World) (hv : Pc.LstP w v vs) (hx : vs.length ≤ 1000000)
    (hp : ∀ (k : Nat) (x : Pc.E), vs[k]? = some x → ∀ u, Q w u → Calls Tryz.prog g (fst ++ #[.agg #[.int .i64 x.1, Pc.txt x.2]] ++ cap) u fun e w' => e = .returned (.bool false) ∧ Q u w') :
    Calls Tryz.prog 129 #[v, .func (.func g) fst cap] w fun e w' => e = .returned (.bool false) ∧ Q w w' := by
  have HI := Lib.hid (idxP g fst cap eg v vs w hv hx hp)
  obtain ⟨a, cp, rfl⟩ := hv.shape
  generalize vs.length = n at *
  clear hv hx hp eg
  go_enter Tryz.func129, Tryz.ntmps129
  go_wp2_with fail
  refine HI.out.mono ?_
  rintro e w' ⟨rfl, hq'⟩
  go_wp2_with fail
  go_ret
  exact ⟨rfl, hq'⟩
/-! ### affixes -/
theorem alloc_size (w : World) (o : Obj) : (w.alloc o).heap.size = w.heap.size + 1 := by
  show (w.heap.push o).size = w.heap.size + 1
  simp
set_option maxRecDepth 100000 in
set_option maxHeartbeats 1000000 in
theorem affixes_any (g : Nat) (r : Lm.Rec) (X : Pt.Pat) (a b c d cl : Value) (w : World) (hB : LB w g r X a b c d cl) :
    Calls Tryz.prog 87 #[.pointer (some ⟨g, 0, none⟩)] w fun e w' => ∃ v, e = .returned v ∧ GLst id w' v [a, b, c, d] ∧ Q w w' := by
  have c8 := hB.1.cell 8 rfl
  have c9 := hB.1.cell 9 rfl
  have c10 := hB.1.cell 10 rfl
  have c11 := hB.1.cell 11 rfl
  have c12 := hB.1.cell 12 rfl
  have c13 := hB.1.cell 13 rfl
  have c14 := hB.1.cell 14 rfl
  have c15 := hB.1.cell 15 rfl
  have c16 := hB.1.cell 16 rfl
  obtain ⟨a1, a2, rfl⟩ := hB.2.1.shape
  obtain ⟨b1, b2, rfl⟩ := hB.2.2.1.shape
  obtain ⟨d1, d2, rfl⟩ := hB.2.2.2.1.shape
  obtain ⟨e1, e2, rfl⟩ := hB.2.2.2.2.shape
  generalize X.pre.length = n1 at *
  generalize X.suf.length = n2 at *
  generalize X.npre.length = n3 at *
  generalize X.nsuf.length = n4 at *
  generalize X.pr = p1 at *
  generalize X.se = p2 at *
  generalize X.mi = p3 at *
  generalize X.mf = p4 at *
  generalize X.xf = p5 at *
  clear hB
  go_enter Tryz.func87, Tryz.ntmps87
  go_wp2_with fail
  go_ret
  have hm := GLst.made id 92 (w.alloc (.cells #[.slice a1 n1 a2, .slice b1 n2 b2, .slice d1 n3 d2, .slice e1 n4 e2, .int .i64 p1, .int .i64 p2, .int .i64 p3, .int .i64 p4, .int .i64 p5] 94)) [.slice a1 n1 a2, .slice b1 n2 b2, .slice d1 n3 d2, .slice e1 n4 e2] 4 rfl (by unfold maxLen; omega)
  rw [alloc_size] at hm
  exact ⟨_, rfl, hm, ((Q.refl w).alloc _).alloc _⟩
theorem aff_at {w : World} {g : Nat} {r : Lm.Rec} {X : Pt.Pat} {a b c d cl : Value} (hB : LB w g r X a b c d cl) {k : Nat} {x : Value} (h : [a, b, c, d][k]? = some x) : ∃ A, (Lm.affs X)[k]? = some A ∧ A ∈ Lm.affs X ∧ Pc.LstP w x A := by
  match k, h with
  | 0, h => simp at h; subst h; exact ⟨X.pre, rfl, by simp [Lm.affs], hB.2.1⟩
  | 1, h => simp at h; subst h; exact ⟨X.suf, rfl, by simp [Lm.affs], hB.2.2.1⟩
  | 2, h => simp at h; subst h; exact ⟨X.npre, rfl, by simp [Lm.affs], hB.2.2.2.1⟩
  | 3, h => simp at h; subst h; exact ⟨X.nsuf, rfl, by simp [Lm.affs], hB.2.2.2.2⟩
  | k + 4, h => simp at h
theorem aff_len (a b c d : Value) : [a, b, c, d].length ≤ 1000000 := by simp
/-! ### literals that are not plain -/
theorem rough1_no (k : Int) (t : List UInt8) (w : World) (ht : t.length ≤ 1000000) (h : k = 0 → plainB (allL t) = true) :
    Calls Tryz.prog 130 #[.agg #[.int .i64 k, .string ⟨t.toArray⟩]] w fun e w' => e = .returned (.bool false) ∧ Q w w' := by
  by_cases h0 : k = 0
  · subst h0
    have hpl := h rfl
    have hsz : (⟨t.toArray⟩ : ByteArray).size = t.length := by simp [ByteArray.size]
    have hsl : (⟨t.toArray⟩ : ByteArray).data.toList = t := by simp
    have hml := marks_length t
    have hal : (allL t).length ≤ 1073741824 := by unfold allL; rw [List.length_map]; omega
    have ha := fun w => all_any (⟨t.toArray⟩ : ByteArray) w (by omega)
    rw [hsl] at ha
    have hp := fun v w hv => plain_any v (allL t) w hv hal
    rw [hpl] at hp
    have HA := Lib.hid ha
    have HP := Lib.hid hp
    generalize (⟨t.toArray⟩ : ByteArray) = T at *
    generalize allL t = A at *
    clear ha hp h hpl hsz hsl hml hal ht
    go_enter Tryz.func130, Tryz.ntmps130
    go_wp2_with fail
    refine (HA.out _).mono ?_
    rintro e w1 ⟨v1, rfl, hv1, hq1⟩
    go_wp2_with fail
    refine (HP.out _ _ hv1.lst).mono ?_
    rintro e w2 ⟨rfl, hq2⟩
    go_wp2_with fail
    go_ret
    exact ⟨rfl, Q.trans ((Q.refl w).alloc _) (hq1.trans hq2)⟩
  · have hb : (k == 0) = false := beq_eq_false_iff_ne.2 h0
    generalize (⟨t.toArray⟩ : ByteArray) = T at *
    clear h ht h0
    go_enter Tryz.func130, Tryz.ntmps130
    go_wp2_with fail
    go_ret
    exact ⟨rfl, (Q.refl w).alloc _⟩
theorem rough_no (v : Value) (A : List Pc.E) (w : World) (hv : Pc.LstP w v A) (hA : A.length ≤ 1000000) (h : ∀ x ∈ A, x.2.length ≤ 1000000 ∧ (x.1 = 0 → plainB (allL x.2) = true)) :
    Calls Tryz.prog 88 #[v] w fun e w' => e = .returned (.bool false) ∧ Q w w' := by
  have HI := Lib.hid (noP 130 #[] #[] (enters_of Tryz.func130 (by kernel_rfl) rfl) v A w hv hA (fun k x hx u _ => by
    have hm := List.mem_of_getElem? hx
    exact rough1_no x.1 x.2 u (h x hm).1 (h x hm).2))
  obtain ⟨a, cp, rfl⟩ := hv.shape
  generalize A.length = n at *
  clear hv hA h
  go_enter Tryz.func88, Tryz.ntmps88
  go_wp2_with fail
  refine HI.out.mono ?_
  rintro e w' ⟨rfl, hq'⟩
  go_wp2_with fail
  go_ret
  exact ⟨rfl, hq'⟩
end Lo
end Go.Proofs.YtnlfeamhedihpaaGreatDoor
