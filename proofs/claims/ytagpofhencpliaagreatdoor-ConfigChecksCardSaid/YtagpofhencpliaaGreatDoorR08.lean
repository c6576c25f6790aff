/- What the library's Reverse comes to, which writes in place, by a walk through it. (and more) -/
import Derived.Test.YtagpofhencpliaaGreatDoorR00
import Derived.Test.YtagpofhencpliaaGreatDoorR02
import Derived.Test.YtagpofhencpliaaGreatDoorR04
import Derived.Test.YtagpofhencpliaaGreatDoorR03
import Derived.Test.YtagpofhencpliaaGreatDoorRows
import Derived.Test.YtagpofhencpliaaGreatDoorR05
import Derived.Test.YtagpofhencpliaaGreatDoorR06
import Derived.Deep.QuietTactic
import Derived.Deep.RegionWith
import Derived.BigQuiet
set_option linter.unusedVariables false
set_option linter.unusedSimpArgs false
namespace Go.Proofs.YtagpofhencpliaaGreatDoor
open Go.RowKit
namespace Dw
set_option maxHeartbeats 1600000 in
theorem reverse_any (v : Value) (xs : List Int) (w : World) (B : Nat) (hv : Own w B v xs) (hl : xs.length < 1099511627776) :
    Calls Tryz.prog 89 #[v] w fun e w' => e = .returned (.tuple #[]) ∧ Own w' B v xs.reverse ∧ Below B w w' := by
  by_cases h0 : xs.length = 0
  · have hx0 : xs = [] := List.eq_nil_of_length_eq_zero h0
    subst hx0
    obtain ⟨a, c, rfl⟩ := hv.shape
    have HV := Lib.hid hv
    clear hv h0 hl
    go_enter Tryz.func89, Tryz.ntmps89
    go_wp2
    refine wp_loop_rounds 1 ?_
    rw [rounds_succ]
    go_wp2
    go_end0
    exact ⟨rfl, HV.out, Below.refl _ _⟩
  · obtain ⟨n, hn⟩ : ∃ n, n = xs.length := ⟨_, rfl⟩
    obtain ⟨g, cap, rfl, hg, hgw, hnc, hcm⟩ := hv.head hn.symm (by omega)
    have HST := Lib.hid (fun zs k m (h : Dm.RV xs k zs) (hm : m + 1 + k = n) => h.step (hm.trans hn))
    have HDN := Lib.hid (fun zs k (h : Dm.RV xs k zs) (h1 : n ≤ 2 * k + 1) (h2 : 2 * k ≤ n) => h.done (by omega) (by omega))
    have HLN := Lib.hid (fun zs k (h : Dm.RV xs k zs) => (h.1.trans hn.symm : zs.length = n))
    have HV := Lib.hid hv
    have HS := Lib.hid (Dm.RV.start xs)
    unfold maxLen at hcm
    rw [← hn] at hl h0
    clear hv hn
    go_enter Tryz.func89, Tryz.ntmps89
    go_wp2_with fail
    go_loopw [2, 3] (fun u t wr => ∃ (k : Nat) (zs : List Int), u = .int .i64 k ∧ t = .int .i64 ((n : Int) - 1 - k) ∧ 2 * k ≤ n ∧ Own wr B (.slice (some ⟨g, 0, none⟩) n cap) zs ∧ Dm.RV xs k zs ∧ Below B w wr) (fun u _ _ => n - (intOf u).toNat)
    case atStart => exact ⟨0, xs, rfl, by go_num, by omega, HV.out, HS.out, Below.refl _ _⟩
    case round =>
      obtain ⟨k, zs, rfl, rfl, hk, ho, hrv, hbl⟩ := hrel
      have hzl := HLN.out zs k hrv
      by_cases hlt : 2 * k + 1 < n
      · obtain ⟨m, hm⟩ : ∃ m : Nat, m + 1 + k = n := ⟨n - 1 - k, by omega⟩
        have hmI : (n : Int) - 1 - (k : Int) = (m : Int) := by omega
        have hst := HST.out zs k m hrv hm (by omega)
        have c1 := ho.cellAt hzl (k := k) (by omega)
        have c2 := ho.cellAt hzl (k := m) (by omega)
        have f1 := ho.freeAt hzl k
        have f2 := ho.freeAt hzl m
        have o2 := fun y z => (ho.stored hzl k y).stored (by rw [List.length_set]; exact hzl) m z
        generalize zs.getD k 0 = y at *
        generalize zs.getD m 0 = z at *
        have HO2 := Lib.hid (o2 z y)
        have HST2 := Lib.hid hst
        have HB := Lib.hid (fun a b => (hbl.setCell (p := ⟨g, k, none⟩) hg a).setCell (p := ⟨g, m, none⟩) hg b)
        have hkn : k < n := by omega
        have hmn : m < n := by omega
        have hkm : k < m := by omega
        clear hst o2 ho hrv hbl hzl
        rw [hmI]
        go_wp2_with fail
        go_region
        all_goals go_wp2
        exact ⟨⟨k + 1, _, by go_num, by rw [show (m : Int) - 1 = (n : Int) - 1 - ((k + 1 : Nat) : Int) from by omega], by omega, HO2.out.q ((Q.refl _).drew), HST2.out, (HB.out _ _).drew⟩, by simp [intOf]; omega⟩
      · have hd := HDN.out zs k hrv (by omega) hk
        rw [hd] at ho
        have HO := Lib.hid ho
        have HB := Lib.hid hbl
        have hge : ¬ (k : Int) < (n : Int) - 1 - (k : Int) := by omega
        clear hd ho hbl hrv hzl
        go_wp2_with fail
        go_end0
        exact ⟨rfl, HO.out, HB.out⟩
end Dw
end Go.Proofs.YtagpofhencpliaaGreatDoor
namespace Go.Proofs.YtagpofhencpliaaGreatDoor
open Go.RowKit
namespace Dr
set_option maxHeartbeats 1600000 in
theorem compare_any (va vb : Value) (xs ys : List Int) (w : World) (hv : Lst w va xs) (hu : Lst w vb ys) (hl : xs.length < 1000000) (hl2 : ys.length < 1000000) (hx : Dm.okD xs) (hy : Dm.okD ys) :
    Calls Tryz.prog 39 #[va, vb] w fun e w' => e = .returned (.int .i64 (Dm.cmpZ (Dm.num xs) (Dm.num ys))) ∧ Q w w' := by
  have H1 := Lib.hid (trim_any va xs w hv (by omega))
  have H2 := Lib.hid (fun w' (q : Q w w') => trim_any vb ys w' (hu.q q) (by omega))
  have HLT := Lib.hid (Dm.cmp_len_lt xs ys hx hy)
  have HGT := Lib.hid (Dm.cmp_len_gt xs ys hx hy)
  have HEQ := Lib.hid (Dm.cmp_len_eq xs ys hx hy)
  have hp : (Dm.trimL xs).length < 1000000 := by rw [Dm.trim_len]; omega
  have hq : (Dm.trimL ys).length < 1000000 := by rw [Dm.trim_len]; omega
  generalize Dm.cmpZ (Dm.num xs) (Dm.num ys) = r at *
  generalize Dm.trimL xs = X at *
  generalize Dm.trimL ys = Y at *
  have L1 := Lib.hid (Dm.lexC_lt X Y)
  have L2 := Lib.hid (Dm.lexC_gt X Y)
  have L3 := Lib.hid (Dm.lexC_on X Y)
  have L6 := Lib.hid (Dm.lexC_end X Y)
  obtain ⟨p, hpe⟩ : ∃ p, p = X.length := ⟨_, rfl⟩
  obtain ⟨q, hqe⟩ : ∃ q, q = Y.length := ⟨_, rfl⟩
  rw [← hpe] at hp HLT HGT HEQ L1 L2 L3 L6
  rw [← hqe] at hq HLT HGT HEQ L1 L2 L3 L6
  have HPE := Lib.hid hpe
  have HQE := Lib.hid hqe
  clear hv hu hx hy hpe hqe
  go_enter Tryz.func39, Tryz.ntmps39
  go_wp2_with fail
  refine H1.out.mono ?_
  rintro e w1 ⟨u1, rfl, ho1, hq1⟩
  obtain ⟨a, c, rfl, hac, _⟩ := ho1.lst.form0 HPE.out.symm
  have HO1 := Lib.hid ho1.lst
  have H2' := Lib.hid (H2.out w1 hq1)
  clear ho1
  go_wp2_with fail
  refine H2'.out.mono ?_
  rintro e w2 ⟨u2, rfl, ho2, hq2⟩
  obtain ⟨b, d, rfl, hbd, _⟩ := ho2.lst.form0 HQE.out.symm
  have HX := Lib.hid (fun k (hk : k < p) => (HO1.out.q hq2).cellOf (n := p) (k := k) HPE.out.symm hk)
  have HY := Lib.hid (fun k (hk : k < q) => ho2.lst.cellOf (n := q) (k := k) HQE.out.symm hk)
  have HQ2 := Lib.hid (hq1.trans hq2)
  clear ho2 hq1 hq2
  rcases Nat.lt_trichotomy p q with h | h | h
  · have HF := Lib.hid (HLT.out h)
    go_wp2_with fail
    go_ret
    rw [HF.out]
    exact ⟨rfl, HQ2.out⟩
  · have HF := Lib.hid (HEQ.out h)
    subst h
    go_wp2_with fail
    go_loopw [7] (fun i wr => ∃ k : Nat, i = .int .i64 k ∧ k ≤ p ∧ Dm.lexC (X.drop k) (Y.drop k) = r ∧ Q w2 wr) (fun i _ => p - (intOf i).toNat)
    case atStart => exact ⟨0, rfl, by omega, HF.out.symm, Q.refl _⟩
    case round =>
      obtain ⟨k, rfl, hk, hc, hq3⟩ := hrel
      have HI := Lib.hid hc
      clear hc
      by_cases hlt : k < p
      · obtain ⟨g, off, cap, hvv, hg, _, _, c1'⟩ := HX.out k hlt
        cases hvv
        obtain ⟨g2, off2, cap2, hvv2, hg2, _, _, c2'⟩ := HY.out k hlt
        cases hvv2
        have c1 := (World.cell?_of_block (w := w2) (hq3.block hg) (a := ⟨g, off + k, none⟩)).trans c1'
        have c2 := (World.cell?_of_block (w := w2) (hq3.block hg2) (a := ⟨g2, off2 + k, none⟩)).trans c2'
        have h1 := L1.out k hlt hlt
        have h2 := L2.out k hlt hlt
        have h3 := L3.out k hlt hlt
        generalize X.getD k 0 = y at *
        generalize Y.getD k 0 = z at *
        have hki : (k : Int) < (p : Int) := by omega
        have HQ3 := Lib.hid (HQ2.out.trans hq3)
        have HQ4 := Lib.hid hq3
        clear c1' c2' hq3
        rcases Int.lt_trichotomy y z with h | h | h
        · have HR := Lib.hid ((h1 h).symm.trans HI.out)
          clear h1 h2 h3
          go_wp2_with fail
          go_quiet (fail)
          go_wp2_with fail
          go_ret
          rw [← HR.out]
          exact ⟨rfl, HQ3.out.drewN _⟩
        · have HR := Lib.hid ((h3 h).symm.trans HI.out)
          subst h
          clear h1 h2 h3
          go_wp2_with fail
          go_quiet (fail)
          go_wp2_with fail
          go_quiet (fail)
          go_wp2_with fail
          exact ⟨⟨k + 1, by go_num, by omega, HR.out, HQ4.out.drewN _⟩, by simp [intOf]; omega⟩
        · have HR := Lib.hid ((h2 h).symm.trans HI.out)
          have hn : ¬ y < z := by omega
          clear h1 h2 h3
          go_wp2_with fail
          go_quiet (fail)
          go_wp2_with fail
          go_quiet (fail)
          go_wp2_with fail
          go_ret
          rw [← HR.out]
          first
            | exact ⟨rfl, HQ3.out.drewN _⟩
            | exact ⟨rfl, (HQ3.out.drewN _).drewN _⟩
      · have HR := Lib.hid ((L6.out k (by omega) (by omega)).symm.trans HI.out)
        have HQ3 := Lib.hid (HQ2.out.trans hq3)
        clear hq3
        go_wp2_with fail
        go_ret
        rw [← HR.out]
        exact ⟨rfl, HQ3.out⟩
  · have HF := Lib.hid (HGT.out h)
    have hn : ¬ p < q := by omega
    go_wp2_with fail
    go_ret
    rw [HF.out]
    exact ⟨rfl, HQ2.out⟩
end Dr
end Go.Proofs.YtagpofhencpliaaGreatDoor
namespace Go.Proofs.YtagpofhencpliaaGreatDoor
open Go.RowKit
namespace Dm
def dotB : ByteArray := ⟨#[46]⟩
def minB : ByteArray := ⟨#[45]⟩
def ptx (T : ByteArray) (s : Nat) : ByteArray := if s = 0 then T else T.extract 0 (T.size - s) ++ dotB ++ T.extract (T.size - s) T.size
def wid (L : List Int) (s : Nat) : List Int := List.replicate (s + 1 - L.length) 0 ++ L
def prt (g : Bool) (L : List Int) (s : Nat) : ByteArray := if g = true then minB ++ ptx (txtB (wid L s)) s else ptx (txtB (wid L s)) s
theorem wid_len (L : List Int) (s : Nat) : (wid L s).length = max (s + 1) L.length := by
  unfold wid
  rw [List.length_append, List.length_replicate]; omega
theorem wid_ok (L : List Int) (s : Nat) (h : okD L) : okD (wid L s) := by
  unfold wid
  rw [okD_append]
  refine ⟨fun d hd => ?_, h⟩
  have := List.eq_of_mem_replicate hd
  omega
theorem txtB_cons (d : Int) (X : List Int) : txtB (d :: X) = strOfNums [48 + d] ++ txtB X := by
  unfold txtB
  have e : (strOfNums (txtL (d :: X))).data.toList = (strOfNums [48 + d] ++ strOfNums (txtL X)).data.toList := by
    rw [strOfNums_data, ByteArray.data_append, Array.toList_append, strOfNums_data, strOfNums_data, ← List.map_append]
    rfl
  have e2 := Array.toList_inj.1 e
  generalize strOfNums (txtL (d :: X)) = t at *
  generalize strOfNums [48 + d] ++ strOfNums (txtL X) = u at *
  cases t; cases u; simp only at e2; rw [e2]
theorem txt_nought (j : Nat) (L : List Int) : (⟨#[48]⟩ : ByteArray) ++ txtB (List.replicate j 0 ++ L) = txtB (List.replicate (j + 1) 0 ++ L) := by
  rw [List.replicate_succ, List.cons_append, txtB_cons]
  have : strOfNums [48 + 0] = ⟨#[48]⟩ := by decide +kernel
  rw [this]
def scan : List UInt8 → List Int → Bool → Nat → Nat → Option (List Int × Bool × Nat × Nat)
  | [], ds, pt, sc, ah => some (ds, pt, sc, ah)
  | c :: r, ds, pt, sc, ah =>
    if c.toNat = 46 ∧ pt = false then scan r ds true sc ah
    else if 48 ≤ c.toNat ∧ c.toNat ≤ 57 then (if pt = true then scan r (ds ++ [(c.toNat : Int) - 48]) pt (sc + 1) ah else scan r (ds ++ [(c.toNat : Int) - 48]) pt sc (ah + 1))
    else none
def sgn (l : List UInt8) : Bool := decide ((l.take 1) = [45])
def bod (l : List UInt8) : List UInt8 := if sgn l = true then l.drop 1 else l
def prs (l : List UInt8) : Bool × List Int × Nat × Int :=
  match scan (bod l) [] false 0 0 with
  | none => (false, [], 0, 2)
  | some (ds, pt, sc, ah) => if ah = 0 ∨ (pt = true ∧ sc = 0) then (false, [], 0, 2) else if 1000 < sc then (false, [], 0, 3) else (sgn l, ds, sc, 0)
theorem prt_size (g : Bool) (L : List Int) (s : Nat) : (prt g L s).size ≤ max (s + 1) L.length + 2 := by
  have hw := wid_len L s
  have ht : (ptx (txtB (wid L s)) s).size ≤ max (s + 1) L.length + 1 := by
    unfold ptx
    have := txt_size (wid L s)
    split
    · omega
    · rw [ByteArray.size_append, ByteArray.size_append, ByteArray.size_extract, ByteArray.size_extract]
      have : dotB.size = 1 := rfl
      omega
  unfold prt
  split
  · rw [ByteArray.size_append]
    have : minB.size = 1 := rfl
    omega
  · omega
end Dm
end Go.Proofs.YtagpofhencpliaaGreatDoor
