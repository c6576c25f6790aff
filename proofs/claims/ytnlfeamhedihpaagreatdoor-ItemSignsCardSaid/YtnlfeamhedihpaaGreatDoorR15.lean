/- What the program's Text, Tags and Find of a list of items answer, what the document's own Text does; the statements' own as and same. (and more) -/
import Derived.Test.YtnlfeamhedihpaaGreatDoorR00
import Derived.Test.YtnlfeamhedihpaaGreatDoorR01
import Derived.Test.YtnlfeamhedihpaaGreatDoorR02
import Derived.Test.YtnlfeamhedihpaaGreatDoorR07
import Derived.Test.YtnlfeamhedihpaaGreatDoorR03
import Derived.Test.YtnlfeamhedihpaaGreatDoorR12
import Derived.Test.YtnlfeamhedihpaaGreatDoorRows
import Derived.Test.YtnlfeamhedihpaaGreatDoorR09
import Derived.Test.YtnlfeamhedihpaaGreatDoorR14
import Derived.Deep.RegionHeld
import Derived.Deep.Cut
import Derived.Deep.QuietTactic
import Derived.BigQuiet
import Derived.Shelf.GgClosure.StringsRunes
set_option linter.unusedVariables false
set_option linter.unusedSimpArgs false
namespace Go.Proofs.YtnlfeamhedihpaaGreatDoor
open Go.RowKit
namespace Im
def txI (l : List E) : List UInt8 := l.flatMap fun e => e.2.1.data.toList
theorem txI_take (l : List E) (k : Nat) (hk : k < l.length) : txI (l.take (k + 1)) = txI (l.take k) ++ (l.getD k e0).2.1.data.toList := by
  unfold txI
  rw [List.take_add_one, List.getElem?_eq_getElem hk, List.flatMap_append, List.getD_eq_getElem?_getD, List.getElem?_eq_getElem hk]
  simp
theorem txI_le (l : List E) (k : Nat) : (txI (l.take k)).length ≤ (txI l).length := by
  have h : txI l = txI (l.take k) ++ txI (l.drop k) := by
    unfold txI
    rw [← List.flatMap_append, List.take_append_drop]
  rw [h, List.length_append]
  omega
def fndI (p : E → Bool) : List E → Nat → Int
  | [], _ => -1
  | x :: r, k => if p x = true then (k : Int) else fndI p r (k + 1)
theorem fndI_at (p : E → Bool) (l : List E) (k : Nat) (hk : k < l.length) : fndI p (l.drop k) k = if p (l.getD k e0) = true then (k : Int) else fndI p (l.drop (k + 1)) (k + 1) := by
  rw [List.drop_eq_getElem_cons hk, List.getD_eq_getElem?_getD, List.getElem?_eq_getElem hk]
  rfl
theorem fndI_end (p : E → Bool) (l : List E) (k : Nat) (hk : l.length ≤ k) : fndI p (l.drop k) k = -1 := by
  rw [List.drop_eq_nil_of_le hk]
  rfl
end Im
namespace It
open Um Im
set_option maxHeartbeats 1600000 in
theorem text_any (v : Value) (l : List E) (w : World) (hv : LstI w v l) (hl : l.length ≤ 1000000) (hz : (txI l).length ≤ 1000000) :
    Calls Tryz.prog 14 #[v] w fun e w' => e = .returned (.string ⟨(txI l).toArray⟩) ∧ Q w w' := by
  obtain ⟨n, hn⟩ : ∃ n, n = l.length := ⟨_, rfl⟩
  obtain ⟨a, cp, rfl, hc1, hc2⟩ := hv.form0 hn.symm
  have HV := Lib.hid (fun u (q : Q w u) k (h : k < n) => (hv.q q).cellOf hn.symm h)
  rw [← hn] at hl
  obtain ⟨T, hT⟩ : ∃ T : Nat → List UInt8, T = fun k => txI (l.take k) := ⟨_, rfl⟩
  have HT1 := Lib.hid (show txI l = T n by rw [hT, hn]; simp)
  have HTS := Lib.hid (show ∀ k, k < n → T (k + 1) = T k ++ (l.getD k e0).2.1.data.toList from fun k hk => by rw [hT]; exact txI_take l k (by omega))
  have HTL := Lib.hid (show ∀ k, (T k).length ≤ 1000000 from fun k => by rw [hT]; exact Nat.le_trans (txI_le l k) hz)
  have HB0 := Lib.hid (show Bl.Is w.heap.size w.heap.size (Lib.byteCells (T 0)) (w.alloc (.cells #[.pointer none, .slice none 0 0] 81)) by
    rw [show T 0 = [] by rw [hT]; rfl]; exact Bl.Is.fresh w)
  rw [HT1.out]
  unfold maxLen at hc2
  clear hn hv hT hz
  go_enter Tryz.func14, Tryz.ntmps14
  go_wp2_with fail
  go_loopw [8] (fun i wr => ∃ k : Nat, i = .int .i64 k ∧ k ≤ n ∧ Bl.Is w.heap.size w.heap.size (Lib.byteCells (T k)) wr ∧ Q w wr) (fun i _ => n - (intOf i).toNat)
  case atStart => exact ⟨0, rfl, by omega, HB0.out, (Q.refl _).alloc _⟩
  case round =>
    obtain ⟨k, rfl, hk, hI, hq⟩ := hrel
    have hqs := hq.le
    by_cases hlt : k < n
    · obtain ⟨g, off, cap, hvv, hg, _, _, c1, c2, c3⟩ := HV.out wr hq k hlt
      cases hvv
      have hts := HTS.out k hlt
      have htl := HTL.out (k + 1)
      generalize l.getD k e0 = x at *
      obtain ⟨xa, xt, xb⟩ := x
      dsimp only at c1 c2 c3 hts
      have hqa := hq.alloc (.cells #[.int .i64 xa, .string xt, .int .i64 xb] 51)
      have hIa := hI.q ((Q.refl wr).alloc (.cells #[.int .i64 xa, .string xt, .int .i64 xb] 51))
      have hqsa := hqa.le
      rw [hts, List.length_append, size_list] at htl
      have HTS1 := Lib.hid hts
      clear hts
      go_wp2_with fail
      refine (Bl.write_any _ _ _ _ _ hIa (by rw [Bl.cells_length]; omega) hqsa).mono ?_
      rintro e w4 ⟨rfl, hI2, hb2, _⟩
      go_wp2_with fail
      exact ⟨⟨k + 1, by go_num, by omega, by rw [HTS1.out]; exact hI2.write, Below.trans hqa hb2⟩, by simp [intOf]; omega⟩
    · obtain rfl : k = n := by omega
      go_wp2_with fail
      refine (Bl.done_any _ _ _ _ hI hqs).mono ?_
      rintro e w4 ⟨rfl, hb2⟩
      go_wp2_with fail
      go_ret
      exact ⟨rfl, Below.trans hq hb2⟩
set_option maxHeartbeats 1600000 in
theorem rtext_any (v : Value) (l : List E) (w : World) (hv : LstI w v l) (hl : l.length ≤ 1000000) (hz : (txI l).length ≤ 1000000) :
    Calls Tryz.prog 15 #[v] w fun e w' => e = .returned (.string ⟨(txI l).toArray⟩) ∧ Q w w' := by
  obtain ⟨n, hn⟩ : ∃ n, n = l.length := ⟨_, rfl⟩
  obtain ⟨a, cp, rfl, hc1, hc2⟩ := hv.form0 hn.symm
  have HV := Lib.hid (fun k (h : k < n) => hv.cellOf hn.symm h)
  rw [← hn] at hl
  obtain ⟨T, hT⟩ : ∃ T : Nat → List UInt8, T = fun k => txI (l.take k) := ⟨_, rfl⟩
  have HT1 := Lib.hid (show txI l = T n by rw [hT, hn]; simp)
  have HTS := Lib.hid (show ∀ k, k < n → T (k + 1) = T k ++ (l.getD k e0).2.1.data.toList from fun k hk => by rw [hT]; exact txI_take l k (by omega))
  have HTL := Lib.hid (show ∀ k, (T k).length ≤ 1000000 from fun k => by rw [hT]; exact Nat.le_trans (txI_le l k) hz)
  have HT0 := Lib.hid (show T 0 = [] by rw [hT]; rfl)
  rw [HT1.out]
  unfold maxLen at hc2
  clear hn hv hT hz
  go_enter Tryz.func15, Tryz.ntmps15
  go_wp2_with fail
  go_loop [3, 4] (fun s i => ∃ k : Nat, i = .int .i64 k ∧ k ≤ n ∧ ∃ S : ByteArray, s = .string S ∧ Hid (S = ⟨(T k).toArray⟩)) (fun _ i => n - (intOf i).toNat)
  case atStart => exact ⟨0, rfl, by omega, _, rfl, Lib.hid (by rw [HT0.out])⟩
  case round =>
    obtain ⟨k, rfl, hk, S, rfl, HS⟩ := hrel
    by_cases hlt : k < n
    · obtain ⟨g, off, cap, hvv, hg, _, _, c1, c2, c3⟩ := HV.out k hlt
      cases hvv
      have hts := HTS.out k hlt
      have htl := HTL.out (k + 1)
      generalize l.getD k e0 = x at *
      obtain ⟨xa, xt, xb⟩ := x
      dsimp only at c1 c2 c3 hts
      rw [hts, List.length_append, size_list] at htl
      have hss : S.size = (T k).length := by rw [HS.out]; simp [ByteArray.size]
      have hsz : S.size + xt.size ≤ 1000000 := by omega
      have hno : ¬ 9223372036854775807 < S.size + xt.size := by omega
      have HTS1 := Lib.hid (show S ++ xt = ⟨(T (k + 1)).toArray⟩ by
        rw [hts, HS.out]
        apply ByteArray.ext
        rw [ByteArray.data_append]
        apply Array.ext'
        simp)
      clear hts htl hss
      go_wp2_with fail
      exact ⟨⟨k + 1, by go_num, by omega, _, rfl, HTS1⟩, by simp [intOf]; omega⟩
    · obtain rfl : k = n := by omega
      go_wp2_with fail
      go_ret
      exact ⟨by rw [HS.out]; rfl, Q.refl _⟩
set_option maxHeartbeats 1600000 in
theorem tags_any (v : Value) (l : List E) (w : World) (hv : LstI w v l) (hl : l.length ≤ 1000000) :
    Calls Tryz.prog 20 #[v] w fun e w' => ∃ x, e = .returned x ∧ Own w' w.heap.size x (l.map (·.1)) ∧ Q w w' := by
  obtain ⟨n, hn⟩ : ∃ n, n = l.length := ⟨_, rfl⟩
  obtain ⟨a, cp, rfl, hc1, hc2⟩ := hv.form0 hn.symm
  have HV := Lib.hid (fun u (q : Q w u) k (h : k < n) => (hv.q q).cellOf hn.symm h)
  rw [← hn] at hl
  obtain ⟨T, hT⟩ : ∃ T : Nat → List Int, T = fun k => (l.take k).map (·.1) := ⟨_, rfl⟩
  have HT1 := Lib.hid (show l.map (·.1) = T n by rw [hT, hn]; simp)
  have HTS := Lib.hid (show ∀ k, k < n → T (k + 1) = T k ++ [(l.getD k e0).1] from fun k hk => by
    rw [hT]
    dsimp only
    rw [List.take_add_one, List.getElem?_eq_getElem (by omega), List.map_append, List.getD_eq_getElem?_getD, List.getElem?_eq_getElem (by omega)]
    rfl)
  have HTL := Lib.hid (show ∀ k, k ≤ n → (T k).length = k from fun k hk => by rw [hT]; simp; omega)
  have HT0 := Lib.hid (show T 0 = [] by rw [hT]; rfl)
  rw [HT1.out]
  unfold maxLen at hc2
  clear hn hv hT
  go_enter Tryz.func20, Tryz.ntmps20
  go_wp2_with fail
  go_loopw [3, 8] (fun x i wr => ∃ k : Nat, i = .int .i64 k ∧ k ≤ n ∧ Own wr w.heap.size x (T k) ∧ Q w wr) (fun _ i _ => n - (intOf i).toNat)
  case atStart => exact ⟨0, rfl, by omega, by rw [HT0.out]; exact Own.nil _ _, Q.refl _⟩
  case round =>
    obtain ⟨k, rfl, hk, ho, hq⟩ := hrel
    by_cases hlt : k < n
    · obtain ⟨g, off, cap, hvv, hg, _, _, c1, c2, c3⟩ := HV.out wr hq k hlt
      cases hvv
      have HTS1 := Lib.hid (HTS.out k hlt)
      have HLK := Lib.hid (HTL.out k hk)
      generalize l.getD k e0 = x at *
      obtain ⟨xa, xt, xb⟩ := x
      dsimp only at c1 c2 c3 HTS1
      obtain ⟨oa, oc, rfl, _, _⟩ := ho.lst.form0 HLK.out
      obtain ⟨z, hz⟩ : ∃ y, y = wr.alloc (.cells #[.int .i64 xa, .string xt, .int .i64 xb] 51) := ⟨_, rfl⟩
      have hqz : Q wr z := by rw [hz]; exact (Q.refl wr).alloc _
      have HQZ := Lib.hid (hq.trans hqz)
      have HOZ := Lib.hid (ho.q hqz)
      have HBX := Lib.hid (show Bk z wr.heap.size 51 [.int .i64 xa, .string xt, .int .i64 xb] by rw [hz]; exact Bk.new _ _ _)
      have hle := HQZ.out.le
      obtain ⟨bX, hbX⟩ : ∃ b, b = wr.heap.size := ⟨_, rfl⟩
      rw [← hbX] at HBX
      clear ho hq hqz
      go_upto_region 5 with fail
      rw [← hz, ← hbX]
      clear hz hbX c1 c2 c3
      have x0 := HBX.out.cell 0 rfl
      go_wp2_with (at_builtin; refine push_int HOZ.out rfl _ _ rfl xa (by rfl) (by rfl) (by rw [HLK.out]; omega) hle ?_)
      intro v' w3 ho3 hg3 hat3
      have HQ3 := Lib.hid (HQZ.out.grown hg3 (fun j h => (HOZ.out.lt j h).1))
      have HO3 := Lib.hid (show Own w3 w.heap.size v' (T (k + 1)) by rw [HTS1.out]; exact ho3)
      clear ho3 hg3 hat3 x0
      go_wp2_with fail
      exact ⟨⟨k + 1, by go_num, by omega, HO3.out, HQ3.out⟩, by simp [intOf]; omega⟩
    · obtain rfl : k = n := by omega
      have HO := Lib.hid ho
      have HQ := Lib.hid hq
      clear ho hq
      go_wp2_with fail
      go_ret
      exact ⟨_, rfl, HO.out, HQ.out⟩
set_option maxHeartbeats 1600000 in
theorem idx_any (g : Nat) (fst cap : Array Value) (eg : ∀ args w, (callFunc g args).run Tryz.prog w = .ok (.enter g args) w) (p : E → Bool) (v : Value) (l : List E) (w : World) (hv : LstI w v l) (hl : l.length ≤ 1000000)
    (hp : ∀ (x : E) u, Q w u → Calls Tryz.prog g (fst ++ #[.agg #[.int .i64 x.1, .string x.2.1, .int .i64 x.2.2]] ++ cap) u fun e w' => e = .returned (.bool (p x)) ∧ Q u w') :
    Calls Tryz.prog 39 #[v, .func (.func g) fst cap] w fun e w' => e = .returned (.int .i64 (fndI p l 0)) ∧ Q w w' := by
  obtain ⟨n, hn⟩ : ∃ n, n = l.length := ⟨_, rfl⟩
  obtain ⟨a, cp, rfl, hc1, hc2⟩ := hv.form0 hn.symm
  have HV := Lib.hid (fun u (q : Q w u) k (h : k < n) => (hv.q q).cellOf hn.symm h)
  have HP := Lib.hid hp
  have HFA := Lib.hid (fun k (h : k < n) => fndI_at p l k (by omega))
  have HFE := Lib.hid (fndI_end p l n (by omega))
  rw [← hn] at hl
  have HR := Lib.hid (show fndI p (l.drop 0) 0 = fndI p l 0 from rfl)
  rw [← HR.out]
  unfold maxLen at hc2
  clear hn hv hp
  go_enter Tryz.func39, Tryz.ntmps39
  go_wp2_with fail
  go_loopw [8] (fun i wr => ∃ k : Nat, i = .int .i64 k ∧ k ≤ n ∧ Hid (fndI p (l.drop 0) 0 = fndI p (l.drop k) k) ∧ Q w wr) (fun i _ => n - (intOf i).toNat)
  case atStart => exact ⟨0, rfl, by omega, Lib.hid rfl, Q.refl _⟩
  case round =>
    obtain ⟨k, rfl, hk, HF, hq⟩ := hrel
    by_cases hlt : k < n
    · obtain ⟨gg, off, cp', hvv, hg, _, _, c1, c2, c3⟩ := HV.out wr hq k hlt
      cases hvv
      have hfa := HFA.out k hlt
      generalize l.getD k e0 = x at *
      have hc := HP.out x wr hq
      obtain ⟨xa, xt, xb⟩ := x
      dsimp only at c1 c2 c3 hc
      have HFK := Lib.hid hfa
      clear hfa
      cases hpx : p (xa, xt, xb)
      · have HF2 := Lib.hid (show fndI p (l.drop 0) 0 = fndI p (l.drop (k + 1)) (k + 1) by rw [HF.out, HFK.out, hpx]; rfl)
        rw [hpx] at hc
        clear hpx
        go_wp2_with (go_at_fn g; refine hc.mono ?_; rintro e w' ⟨rfl, hq'⟩)
        exact ⟨⟨k + 1, by go_num, by omega, HF2, hq.trans hq'⟩, by simp [intOf]; omega⟩
      · have HF2 := Lib.hid (show fndI p (l.drop 0) 0 = (k : Int) by rw [HF.out, HFK.out, hpx]; rfl)
        rw [hpx] at hc
        clear hpx
        go_wp2_with (go_at_fn g; refine hc.mono ?_; rintro e w' ⟨rfl, hq'⟩)
        go_ret
        exact ⟨by rw [HF2.out]; rfl, hq.trans hq'⟩
    · obtain rfl : k = n := by omega
      go_wp2_with fail
      go_ret
      exact ⟨by rw [HF.out, HFE.out]; rfl, hq⟩
set_option maxHeartbeats 800000 in
theorem find1_any (x : E) (a : Int) (b : Nat) (w : World) (hb : Bk w b 3 [.int .i64 a]) :
    Calls Tryz.prog 40 #[.agg #[.int .i64 x.1, .string x.2.1, .int .i64 x.2.2], .pointer (some ⟨b, 0, none⟩)] w fun e w' => e = .returned (.bool (x.2.2 == a)) ∧ Q w w' := by
  obtain ⟨xa, xt, xb⟩ := x
  dsimp only
  have HQZ := Lib.hid ((Q.refl w).alloc (.cells #[.int .i64 xa, .string xt, .int .i64 xb] 51))
  have x0 := (hb.q HQZ.out).cell 0 rfl
  have hblt := hb.lt
  have hne : b ≠ w.heap.size := by omega
  clear hb
  go_enter Tryz.func40, Tryz.ntmps40
  go_wp2_with fail
  go_ret
  exact ⟨rfl, HQZ.out⟩
set_option maxRecDepth 100000 in
set_option maxHeartbeats 800000 in
theorem find_any (v : Value) (l : List E) (a : Int) (w : World) (hv : LstI w v l) (hl : l.length ≤ 1000000) :
    Calls Tryz.prog 19 #[v, .int .i64 a] w fun e w' => e = .returned (.int .i64 (fndI (fun x => x.2.2 == a) l 0)) ∧ Q w w' := by
  obtain ⟨z, hz⟩ : ∃ z, z = w.alloc (.cells #[.int .i64 a] 3) := ⟨_, rfl⟩
  have HQZ := Lib.hid (show Q w z by rw [hz]; exact (Q.refl w).alloc _)
  have HDZ := Lib.hid (show Bk z w.heap.size 3 [.int .i64 a] by rw [hz]; exact Bk.new _ _ _)
  have HC := Lib.hid (idx_any 40 #[] #[.pointer (some ⟨w.heap.size, 0, none⟩)] (fun _ _ => rfl) (fun x => x.2.2 == a) v l z (hv.q HQZ.out) hl (fun x u q => by
    have h := find1_any x a w.heap.size u (HDZ.out.q q)
    simpa using h))
  obtain ⟨va, vc, rfl⟩ : ∃ a c, v = .slice a l.length c := by obtain ⟨a, c, h, _⟩ := hv.shape2; exact ⟨a, c, h⟩
  clear hv
  generalize fndI (fun x => x.2.2 == a) l 0 = R at *
  generalize l.length = n at *
  go_enter Tryz.func19, Tryz.ntmps19
  go_upto_region 1 with fail
  rw [← hz]
  clear hz
  go_wp2_with fail
  refine HC.out.mono ?_
  rintro e w2 ⟨rfl, hq⟩
  have HQ2 := Lib.hid (HQZ.out.trans hq)
  go_wp2_with fail
  go_ret
  exact ⟨rfl, HQ2.out⟩
end It
end Go.Proofs.YtnlfeamhedihpaaGreatDoor
namespace Go.Proofs.YtnlfeamhedihpaaGreatDoor
open Go.RowKit
namespace Pg
open Pt Um
abbrev Vl (cs : List Int) : Prop := ∀ c ∈ cs, vld c = true
theorem Vl.cons {c : Int} {r : List Int} (h : Vl (c :: r)) : vld c = true ∧ Vl r := ⟨h c List.mem_cons_self, fun d hd => h d (List.mem_cons_of_mem _ hd)⟩
end Pg
end Go.Proofs.YtnlfeamhedihpaaGreatDoor
