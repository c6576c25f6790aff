/- An error of a code wrapped along texts, and the document's example. -/
import Derived.Test.YtfnojkcklgmoiaaDoorErrG
import Derived.Test.YtfnojkcklgmoiaaDoorSamT
import Derived.OwnWalk
set_option linter.unusedVariables false
set_option linter.unusedSimpArgs false
namespace Go.Proofs.YtfnojkcklgmoiaaDoor
open Go.RowKit Um
namespace Fe

/-- The first texts, each cut, the last one ahead. -/
def pth (xs : List ByteArray) (k : Nat) : List ByteArray := ((xs.take k).map fun x => Ur.few x 12).reverse
theorem pth_succ (xs : List ByteArray) (k : Nat) (x : ByteArray) (h : xs[k]? = some x) : pth xs (k + 1) = Ur.few x 12 :: pth xs k := by
  obtain ⟨hk, rfl⟩ := List.getElem?_eq_some_iff.1 h
  unfold pth
  rw [List.take_succ_eq_append_getElem hk, List.map_append, List.reverse_append]; rfl
theorem pth_length (xs : List ByteArray) (k : Nat) : (pth xs k).length ≤ k := by unfold pth; simp; omega
theorem pth_cat (xs : List ByteArray) (k : Nat) : (cat (pth xs k)).length ≤ 12 * k := by
  have h : ∀ l : List ByteArray, (∀ p ∈ l, p.size ≤ 12) → (cat l).length ≤ 12 * l.length := fun l => by
    induction l with
    | nil => intro _; simp [cat]
    | cons p l ih =>
      intro hp
      have e : (cat (p :: l)).length = p.size + (cat l).length := by
        have : cat (p :: l) = p.data.toList ++ cat l := by simp [cat]
        rw [this, List.length_append, size_list]
      have h1 := hp p List.mem_cons_self
      have h2 := ih fun q hq => hp q (List.mem_cons_of_mem _ hq)
      rw [e, List.length_cons]; omega
  have h1 := h (pth xs k) (fun p hp => by
    unfold pth at hp
    obtain ⟨x, _, rfl⟩ := List.mem_map.1 (List.mem_reverse.1 hp)
    exact Ur.few_size x 12)
  have := pth_length xs k
  omega
/-- The code that is wrapped. -/
def cod (c : Int) : Int := if c = 0 then 1 else c
theorem cod_ne (c : Int) : cod c ≠ 0 := by unfold cod; split <;> omega
theorem cod_bd (c : Int) (h0 : -9223372036854775808 ≤ c) (h1 : c ≤ 9223372036854775807) : -9223372036854775808 ≤ cod c ∧ cod c ≤ 9223372036854775807 := by unfold cod; split <;> omega
def six (xs : List ByteArray) : Nat := min xs.length 6

set_option maxHeartbeats 4000000 in
set_option maxRecDepth 100000 in
theorem begin_any (c : Int) (v : Value) (xs : List ByteArray) (w : World) (he : Env w) (hv : SLst w v xs) (hs : ∀ x ∈ xs, x.size ≤ maxLen) (hx : xs.length ≤ maxLen) (h0 : -9223372036854775808 ≤ c) (h1 : c ≤ 9223372036854775807) :
    Calls Tryd.prog 10 #[.int .i64 c, v] w fun e w' => (∃ x y, e = .returned (.tuple #[x, .int .i64 (cod c), y]) ∧ EV w' (cod c) (pth xs (six xs)) x ∧ SLst w' y (pth xs (six xs))) ∧ Q w w' := by
  obtain ⟨n, hn⟩ : ∃ n, n = xs.length := ⟨_, rfl⟩
  obtain ⟨a, cp, rfl, hcp, hcm⟩ := hv.form0 hn.symm
  unfold maxLen at hs hx hcm
  rw [← hn] at hx
  have hcn := cod_ne c
  have hget : ∀ k, k < n → ∃ x, xs[k]? = some x ∧ x.size ≤ 9223372036854775807 := fun k hk => ⟨xs[k]'(by omega), List.getElem?_eq_getElem (by omega), hs _ (List.getElem_mem _)⟩
  have HG := Lib.hid hget
  have HS := Lib.hid (show six xs = min n 6 by unfold six; rw [hn])
  have HV := Lib.hid (fun k x (h : xs[k]? = some x) => hv.cellOf hn.symm h)
  have hcod : (c = 0 ∧ cod c = 1) ∨ (c ≠ 0 ∧ cod c = c) := by
    unfold cod
    by_cases h : c = 0
    · exact .inl ⟨h, if_pos h⟩
    · exact .inr ⟨h, if_neg h⟩
  generalize cod c = d at hcn hcod ⊢
  clear hget hs hn hv
  rcases hcod with ⟨rfl, rfl⟩ | ⟨hc0, rfl⟩
  · go_enter Tryd.func10, Tryd.ntmps10
    go_wp2_with fail
    refine (of_any _ _ hcn).mono ?_
    rintro e w1 ⟨⟨x0, rfl, hx0⟩, rfl⟩
    go_wp2_with fail
    go_loopw [7, 8, 9] (fun x y i wr => (∃ k : Nat, i = .int .i64 k ∧ k ≤ n ∧ k ≤ 6 ∧ EV wr 1 (pth xs k) x ∧ SLst wr y (pth xs k)) ∧ Q w1 wr) (fun _ _ i _ => n - (intOf i).toNat)
    case atStart => exact ⟨⟨0, rfl, by omega, by omega, hx0, GLst.nil _ _ _ _ (by unfold maxLen; omega) (fun _ => rfl)⟩, Q.refl _⟩
    case round =>
      obtain ⟨⟨k, rfl, hk, hk6, hx, hy⟩, hq⟩ := hrel
      by_cases hlt : k < n ∧ k < 6
      · obtain ⟨hkn, hk5⟩ := hlt
        obtain ⟨s, hsx, hsz⟩ := HG.out k hkn
        obtain ⟨g, off, cap, hvv, hg, _, _, hc1⟩ := HV.out k s hsx
        cases hvv
        have c1 := (World.cell?_of_block (w := w1) (a := ⟨g, off + k, none⟩) (hq.block hg)).trans hc1
        have HP := Lib.hid (pth_succ xs k s hsx)
        have hpl := pth_length xs k
        have hk5' : (k : Int) < 6 := by omega
        have hkn' : (k : Int) < n := by omega
        clear hsx hc1 hx0
        go_wp2_with fail
        refine (Ur.few_any s 12 wr (by unfold maxLen; exact hsz) (by omega)).mono ?_
        rintro e w2 ⟨rfl, rfl⟩
        generalize Ur.few s 12 = p at HP ⊢
        go_wp2_with fail
        refine (wrap_any p _ _ _ _ hx).mono ?_
        rintro e w3 ⟨⟨x', rfl, hx'⟩, hq3⟩
        go_wp2_with fail
        refine (front_any p _ _ _ (hy.q hq3) (by omega)).mono ?_
        rintro e w4 ⟨⟨y', rfl, hy'⟩, hq4⟩
        go_wp2_with fail
        exact ⟨⟨⟨k + 1, by go_num, by omega, by omega, by rw [HP.out]; exact hx'.q hq4, by rw [HP.out]; exact hy'.lst⟩, (hq.trans hq3).trans hq4⟩, by simp [intOf]; omega⟩
      · have HK := Lib.hid (show six xs = k by rw [HS.out]; omega)
        by_cases hkn : k < n
        · have h6 : ¬ (k : Int) < 6 := by omega
          have hkn' : (k : Int) < n := by omega
          clear hlt
          go_wp2_with fail
          go_ret3
          rw [HK.out]
          exact ⟨⟨_, _, rfl, hx, hy⟩, hq⟩
        · have hkn' : ¬ (k : Int) < n := by omega
          clear hlt
          go_wp2_with fail
          go_ret3
          rw [HK.out]
          exact ⟨⟨_, _, rfl, hx, hy⟩, hq⟩
  · go_enter Tryd.func10, Tryd.ntmps10
    go_wp2_with fail
    refine (of_any _ _ hcn).mono ?_
    rintro e w1 ⟨⟨x0, rfl, hx0⟩, rfl⟩
    go_wp2_with fail
    go_loopw [7, 8, 9] (fun x y i wr => (∃ k : Nat, i = .int .i64 k ∧ k ≤ n ∧ k ≤ 6 ∧ EV wr d (pth xs k) x ∧ SLst wr y (pth xs k)) ∧ Q w1 wr) (fun _ _ i _ => n - (intOf i).toNat)
    case atStart => exact ⟨⟨0, rfl, by omega, by omega, hx0, GLst.nil _ _ _ _ (by unfold maxLen; omega) (fun _ => rfl)⟩, Q.refl _⟩
    case round =>
      obtain ⟨⟨k, rfl, hk, hk6, hx, hy⟩, hq⟩ := hrel
      by_cases hlt : k < n ∧ k < 6
      · obtain ⟨hkn, hk5⟩ := hlt
        obtain ⟨s, hsx, hsz⟩ := HG.out k hkn
        obtain ⟨g, off, cap, hvv, hg, _, _, hc1⟩ := HV.out k s hsx
        cases hvv
        have c1 := (World.cell?_of_block (w := w1) (a := ⟨g, off + k, none⟩) (hq.block hg)).trans hc1
        have HP := Lib.hid (pth_succ xs k s hsx)
        have hpl := pth_length xs k
        have hk5' : (k : Int) < 6 := by omega
        have hkn' : (k : Int) < n := by omega
        clear hsx hc1 hx0
        go_wp2_with fail
        refine (Ur.few_any s 12 wr (by unfold maxLen; exact hsz) (by omega)).mono ?_
        rintro e w2 ⟨rfl, rfl⟩
        generalize Ur.few s 12 = p at HP ⊢
        go_wp2_with fail
        refine (wrap_any p _ _ _ _ hx).mono ?_
        rintro e w3 ⟨⟨x', rfl, hx'⟩, hq3⟩
        go_wp2_with fail
        refine (front_any p _ _ _ (hy.q hq3) (by omega)).mono ?_
        rintro e w4 ⟨⟨y', rfl, hy'⟩, hq4⟩
        go_wp2_with fail
        exact ⟨⟨⟨k + 1, by go_num, by omega, by omega, by rw [HP.out]; exact hx'.q hq4, by rw [HP.out]; exact hy'.lst⟩, (hq.trans hq3).trans hq4⟩, by simp [intOf]; omega⟩
      · have HK := Lib.hid (show six xs = k by rw [HS.out]; omega)
        by_cases hkn : k < n
        · have h6 : ¬ (k : Int) < 6 := by omega
          have hkn' : (k : Int) < n := by omega
          clear hlt
          go_wp2_with fail
          go_ret3
          rw [HK.out]
          exact ⟨⟨_, _, rfl, hx, hy⟩, hq⟩
        · have hkn' : ¬ (k : Int) < n := by omega
          clear hlt
          go_wp2_with fail
          go_ret3
          rw [HK.out]
          exact ⟨⟨_, _, rfl, hx, hy⟩, hq⟩


theorem told_example : told [⟨#[115, 116, 101, 112]⟩, ⟨#[109, 105, 110]⟩] 3 = ⟨#[115, 116, 101, 112, 58, 32, 109, 105, 110, 58, 32, 51]⟩ := by
  unfold told Lib.itoa
  rw [if_neg (by omega), decDigits_one _ (by omega)]; rfl

set_option maxHeartbeats 4000000 in
set_option maxRecDepth 100000 in
theorem lives_any (w : World) (he : Env w) : Calls Tryd.prog 15 #[] w fun e w' => e = .returned (.bool true) ∧ Q w w' := by
  go_enter Tryd.func15, Tryd.ntmps15
  go_wp2_with fail
  refine (of_any 3 _ (by omega)).mono ?_
  rintro e w1 ⟨⟨x0, rfl, hx0⟩, rfl⟩
  go_wp2_with fail
  refine (wrap_any _ _ _ _ _ hx0).mono ?_
  rintro e w2 ⟨⟨x1, rfl, hx1⟩, hq2⟩
  go_wp2_with fail
  refine (wrap_any _ _ _ _ _ hx1).mono ?_
  rintro e w3 ⟨⟨x2, rfl, hx2⟩, hq3⟩
  have hq13 := hq2.trans hq3
  go_wp2_with fail
  refine (text_any 3 _ _ _ (he.q hq13) hx2 (by omega) (by omega) (by simp) (by simp [cat])).mono ?_
  rintro e w4 ⟨rfl, hq4⟩
  rw [told_example]
  have hq14 := hq13.trans hq4
  have he4 := he.q hq14
  have hx4 := hx2.q hq4
  go_wp2_with fail
  refine (path_any 3 _ _ _ he4.handle hx4 (by simp)).mono ?_
  rintro e w5 ⟨⟨y, rfl, hy⟩, hq5⟩
  obtain ⟨ya, yc, rfl, _, _⟩ := hy.lst.form0 (n := 2) (by simp)
  have hz := GLst.made Value.string 9 w5 [⟨#[115, 116, 101, 112]⟩, ⟨#[109, 105, 110]⟩] 2 rfl (by unfold maxLen; omega)
  have hy6 := hy.lst.q ((Q.refl w5).alloc (.cells ([(⟨#[115, 116, 101, 112]⟩ : ByteArray), ⟨#[109, 105, 110]⟩].map Value.string).toArray 9))
  have HQ := Lib.hid (hq14.trans (hq5.alloc (.cells ([(⟨#[115, 116, 101, 112]⟩ : ByteArray), ⟨#[109, 105, 110]⟩].map Value.string).toArray 9)))
  go_wp2_with fail
  refine (Gr.sames_any _ _ _ _ _ hy6 hz (by simp) (by simp)).mono ?_
  rintro e w7 ⟨rfl, hq7⟩
  go_wp2_with fail
  go_ret
  exact ⟨rfl, HQ.out.trans hq7⟩

end Fe
end Go.Proofs.YtfnojkcklgmoiaaDoor
