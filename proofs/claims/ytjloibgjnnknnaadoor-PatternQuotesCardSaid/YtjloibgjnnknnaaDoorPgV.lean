/- The law PatternQuotes: a literal of whatever signs comes back. Our own work. -/
import Derived.Deep.Cut
import Derived.Deep.DeepCutAuto
import Derived.Test.YtjloibgjnnknnaaDoorRows
import Derived.Test.YtjloibgjnnknnaaDoorInts
import Derived.Test.YtjloibgjnnknnaaDoorUtfM
import Derived.Test.YtjloibgjnnknnaaDoorUtfG
import Derived.Test.YtjloibgjnnknnaaDoorUtfR
import Derived.Test.YtjloibgjnnknnaaDoorUtfW
import Derived.Test.YtjloibgjnnknnaaDoorBlk
import Derived.Test.YtjloibgjnnknnaaDoorPcs
import Derived.Test.YtjloibgjnnknnaaDoorPatM
import Derived.Test.YtjloibgjnnknnaaDoorPatN
import Derived.Test.YtjloibgjnnknnaaDoorPatT
import Derived.Test.YtjloibgjnnknnaaDoorPgA
import Derived.Test.YtjloibgjnnknnaaDoorPgH
import Derived.Test.YtjloibgjnnknnaaDoorPgI
import Derived.Test.YtjloibgjnnknnaaDoorPgJ
import Derived.Test.YtjloibgjnnknnaaDoorPgO
import Derived.Test.YtjloibgjnnknnaaDoorPgP
import Derived.Test.YtjloibgjnnknnaaDoorPgQ
import Derived.Test.YtjloibgjnnknnaaDoorPgR
import Derived.Test.YtjloibgjnnknnaaDoorPgS
import Derived.Test.YtjloibgjnnknnaaDoorPgL2
import Derived.Test.YtjloibgjnnknnaaDoorPgU
import Derived.Deep.QuietTactic
import Derived.BigQuiet
import Derived.Deep.RegionHeld3
set_option linter.unusedVariables false
set_option linter.unusedSimpArgs false
namespace Go.Proofs.YtjloibgjnnknnaaDoor
open Go.RowKit
namespace Pg
open Pt Um

theorem vl39 : vld 39 = true := (vld_iff _).2 (by omega)
theorem fl_vl {r : List Int} (h : Vl r) : Vl (fl r) := by
  unfold fl
  split
  · exact dbl_vl h
  · intro c hc
    rcases List.mem_append.1 hc with hc | hc
    · rcases List.mem_cons.1 hc with rfl | hc
      · exact vl39
      · exact dbl_vl h c hc
    · rw [List.mem_singleton.1 hc]; exact vl39
theorem prS_vl (l : List Int) : ∀ run, Vl run → Vl l → Vl (prS run l) := by
  induction l with
  | nil => intro run hr _; exact fl_vl hr
  | cons c r ih =>
    intro run hr hl
    have hc := hl c List.mem_cons_self
    have hr2 : Vl r := fun d hd => hl d (List.mem_cons_of_mem _ hd)
    unfold prS
    split
    · refine ih _ ?_ hr2
      intro d hd
      rcases List.mem_append.1 hd with hd | hd
      · exact hr d hd
      · rw [List.mem_singleton.1 hd]; exact hc
    · intro d hd
      rcases List.mem_append.1 hd with hd | hd
      · exact fl_vl hr d hd
      · rcases List.mem_cons.1 hd with rfl | hd
        · exact hc
        · exact ih [] (fun _ h => absurd h List.not_mem_nil) hr2 d hd
theorem out_lit {cs l : List Int} {b : Bool} (h : outS false false cs = some (lit l, b, b)) : outS false false (cs ++ [35]) = some (lit l ++ [(4, 35)] ++ [], false, false) := by
  rw [out_append, h]
  have : outS b b [35] = some ([(4, 35)], false, false) := by
    rw [outS_cons, if_neg (by decide), if_neg (by simp), if_neg (by decide)]; rfl
  simp [this]
theorem litP_eq {l : List Int} (h : Vl l) (h0 : l ≠ []) : litP l = ⟨lits [l], lits [], (3, []) :: lits [l], lits [], 0, 0, 0, 0, 0⟩ := by
  have hj : joinT [] (lit l) = lits [l] := by
    rw [join_lit, List.nil_append, joinL_encL l h, if_neg]
    · rfl
    · intro e
      have := joinL_lenb l h
      rw [e] at this
      exact h0 (List.eq_nil_of_length_eq_zero (by simpa using this))
  unfold litP mkP
  rw [hj]
  rfl
/-- A text that is a literal and a number sign, parsed. -/
theorem parse_of_lit {cs l : List Int} (hv : Vl cs) (hz : cs.length ≤ 9000) (hl : Vl l) (h0 : l ≠ []) (b : Bool) (h : outS false false cs = some (lit l, b, b)) (w : World) :
    Calls Tryd.prog 15 #[.string ⟨(joinL (cs ++ [35])).toArray⟩] w fun e w' => ∃ v, e = .returned (.tuple #[v, .int .i64 0]) ∧ PV w' w.heap.size v ⟨lits [l], lits [], (3, []) :: lits [l], lits [], 0, 0, 0, 0, 0⟩ ∧ Q w w' := by
  have hv2 : Vl (cs ++ [35]) := by
    intro c hc
    rcases List.mem_append.1 hc with hc | hc
    · exact hv c hc
    · rw [List.mem_singleton.1 hc]; decide +kernel
  have := parse1 (cs := cs ++ [35]) hv2 (by rw [List.length_append, List.length_singleton]; omega) (P := lit l) (N := [(4, 35)]) (S := []) (c := false) (out_lit h)
    ⟨okT_lit l, fun x hx => absurd hx List.not_mem_nil, fun x hx => by rw [List.mem_singleton.1 hx]⟩ (by decide) (by decide) (by decide +kernel) w
  rw [parse_lit ⟨b, h⟩, litP_eq hl h0] at this
  exact this

theorem jl_take (l : List Int) (k : Nat) (h : k < l.length) (hv : Vl l) : joinL (l.take (k + 1)) = joinL (l.take k) ++ (encB (l.getD k 0)).data.toList := by
  rw [joinL_take l k h]
  have hvk : vld (l.getD k 0) = true := by rw [List.getD_eq_getElem?_getD, List.getElem?_eq_getElem h]; exact hv _ (List.getElem_mem h)
  rw [← encL_one hvk]; rfl
theorem jd_take (l : List Int) (k : Nat) (h : k < l.length) (hv : Vl l) : joinL (dbl (l.take (k + 1))) = joinL (dbl (l.take k)) ++ (if l.getD k 0 = 39 then [39, 39] else (encB (l.getD k 0)).data.toList) := by
  have hd : dbl (l.take (k + 1)) = dbl (l.take k) ++ (if l.getD k 0 = 39 then [39, 39] else [l.getD k 0]) := by
    rw [List.take_succ_eq_append_getElem h, List.getD_eq_getElem?_getD, List.getElem?_eq_getElem h]
    unfold dbl
    rw [List.flatMap_append, List.flatMap_cons, List.flatMap_nil, List.append_nil]; rfl
  rw [hd, joinL_app]
  have hvk : vld (l.getD k 0) = true := by rw [List.getD_eq_getElem?_getD, List.getElem?_eq_getElem h]; exact hv _ (List.getElem_mem h)
  congr 1
  split
  · decide +kernel
  · rw [joinL_cons, ← encL_one hvk]
    show encL _ ++ [] = _
    rw [List.append_nil]; rfl
theorem any_take (l : List Int) (k : Nat) (h : k < l.length) : (l.take (k + 1)).any (fun c => c != 39) = ((l.take k).any (fun c => c != 39) || (l.getD k 0 != 39)) := by
  rw [List.take_succ_eq_append_getElem h, List.getD_eq_getElem?_getD, List.getElem?_eq_getElem h, List.any_append]; simp
theorem add39 (M : List UInt8) : (⟨#[39]⟩ : ByteArray) ++ ⟨M.toArray⟩ ++ ⟨#[39, 35]⟩ = ⟨([39] ++ M ++ [39, 35]).toArray⟩ := by
  apply ba_ext
  simp [ByteArray.toList_data_append]

set_option maxHeartbeats 4000000 in
set_option maxRecDepth 100000 in
theorem law_quotes (s : ByteArray) (w : World) (hs : s.size ≤ maxLen) : Calls Tryd.prog 6 #[.string s] w fun e w' => e = .returned (.bool true) ∧ Q w w' := by
  have HFW := Lib.hid (fun u => Ur.few_any s 12 u hs (by decide))
  have hsz := Ur.few_size s 12
  generalize Ur.few s 12 = S at *
  have HAL := Lib.hid (fun u => Ur.all_any S u (by omega))
  have hvl : Vl (allL S.data.toList) := allL_vld _
  have hll : (allL S.data.toList).length ≤ 12 := by
    have h := marks_length S.data.toList
    unfold allL
    rw [List.length_map]
    rw [size_list] at h
    omega
  generalize allL S.data.toList = L at *
  obtain ⟨n, hn⟩ : ∃ n, L.length = n := ⟨_, rfl⟩
  have HN := Lib.hid hn
  have HVL := Lib.hid hvl
  rw [hn] at hll
  clear hn hvl hs hsz
  go_enter Tryd.func6, Tryd.ntmps6
  go_wp2_with fail
  refine (HFW.out _).mono ?_
  rintro e w1 ⟨rfl, rfl⟩
  go_wp2_with fail
  refine (HAL.out _).mono ?_
  rintro e w2 ⟨v, u, rfl, hov, _, _, hq2⟩
  obtain ⟨va, vc, rfl, _, _⟩ := hov.lst.form0 HN.out
  have HOV := Lib.hid hov.lst
  have HQ2 := Lib.hid hq2
  have hg2 := hov.lst
  clear hov hq2
  go_wp2_with fail
  go_loopw [6, 7, 8, 9] (fun t d o i wr => ∃ k : Nat, i = .int .i64 k ∧ k ≤ n ∧ t = .string ⟨(joinL (L.take k)).toArray⟩ ∧ d = .string ⟨(joinL (dbl (L.take k))).toArray⟩ ∧ o = .bool ((L.take k).any fun c => c != 39) ∧ Q w2 wr) (fun _ _ _ i _ => n - (intOf i).toNat)
  case atStart => exact ⟨0, rfl, by omega, rfl, rfl, rfl, Q.refl _⟩
  case round =>
    obtain ⟨k, rfl, hk, rfl, rfl, rfl, hq⟩ := hrel
    by_cases hlt : k < n
    · have hlti : (k : Int) < (n : Int) := by omega
      obtain ⟨g, off, cap, hvv, hg, _, _, c1⟩ := HOV.out.cellOf HN.out hlt
      cases hvv
      replace c1 := (World.cell?_of_block (w := w2) (hq.block hg)).trans c1
      have hkl : k < L.length := by rw [HN.out]; exact hlt
      have e1 := jl_take L k hkl HVL.out
      have e2 := jd_take L k hkl HVL.out
      have e3 := any_take L k hkl
      have s1 := joinL_length (L.take k)
      have s2 := joinL_length (dbl (L.take k))
      have s3 := dbl_len (L.take k)
      have s4 : (L.take k).length = k := by rw [List.length_take]; omega
      obtain ⟨y, hy⟩ : ∃ y, y = L.getD k 0 := ⟨_, rfl⟩
      rw [← hy] at c1 e1 e2 e3
      have HEN := Lib.hid (fun u => Ur.encode_any y u)
      have s5 := encB_size y
      have s6 : (⟨(joinL (L.take k)).toArray⟩ : ByteArray).size ≤ 48 := by rw [← size_list]; show (joinL (L.take k)).length ≤ _; omega
      have s7 : (⟨(joinL (dbl (L.take k))).toArray⟩ : ByteArray).size ≤ 96 := by rw [← size_list]; show (joinL (dbl (L.take k))).length ≤ _; omega
      have HT := Lib.hid (show (⟨(joinL (L.take (k + 1))).toArray⟩ : ByteArray) = ⟨(joinL (L.take k)).toArray⟩ ++ encB y by
        rw [e1]; apply ba_ext; simp [ByteArray.toList_data_append])
      have HD := Lib.hid (show (⟨(joinL (dbl (L.take (k + 1)))).toArray⟩ : ByteArray) = ⟨(joinL (dbl (L.take k))).toArray⟩ ++ (if y = 39 then ⟨#[39, 39]⟩ else encB y) by
        rw [e2]; apply ba_ext; split <;> simp [ByteArray.toList_data_append])
      have HO := Lib.hid e3
      generalize (⟨(joinL (L.take k)).toArray⟩ : ByteArray) = T at *
      generalize (⟨(joinL (dbl (L.take k))).toArray⟩ : ByteArray) = D at *
      generalize ((L.take k).any fun c => c != 39) = O at *
      generalize encB y = E at *
      have HQ := Lib.hid hq
      have HC := Lib.hid c1
      have HG := Lib.hid (Nat.lt_of_lt_of_le hg (Q.le hq))
      clear e1 e2 e3 s1 s2 s3 s4 hy hq hg
      go_wp2_with fail
      refine (HEN.out _).mono ?_
      rintro e w4 ⟨rfl, hq4⟩
      have c2 := (World.cell?_of_block (w := wr) (hq4.block HG.out)).trans HC.out
      have HQ4 := Lib.hid (HQ.out.trans hq4)
      clear hq4
      by_cases hy : y = 39
      · subst hy
        go_wp2_with fail
        exact ⟨⟨k + 1, by go_num, by omega, by rw [HT.out], by rw [HD.out]; simp, by rw [HO.out]; simp, HQ4.out⟩, by simp [intOf]; omega⟩
      · have hyb : (y != 39) = true := by simpa using hy
        go_wp2_with fail
        exact ⟨⟨k + 1, by go_num, by omega, by rw [HT.out], by rw [HD.out]; simp [hy], by rw [HO.out, hyb]; simp, HQ4.out⟩, by simp [intOf]; omega⟩
    · have hno : ¬ (k : Int) < (n : Int) := by omega
      rw [List.take_of_length_le (by rw [HN.out]; omega)]
      have HQ := Lib.hid (HQ2.out.trans hq)
      clear hq
      cases ho : L.any (fun c => c != 39) with
      | false =>
        go_wp2_with fail
        refine (lives_any _).mono ?_
        rintro e w4 ⟨rfl, hq4⟩
        have hqe := HQ.out.trans hq4
        go_wp2_with fail
        go_ret
        exact ⟨rfl, hqe⟩
      | true =>
        have hex : ∃ c ∈ L, c ≠ 39 := by
          obtain ⟨c, hc, h⟩ := List.any_eq_true.1 ho
          exact ⟨c, hc, by simpa using h⟩
        have hne : L ≠ [] := by
          obtain ⟨c, hc, _⟩ := hex
          exact List.ne_nil_of_mem hc
        have hvl := HVL.out
        have hll2 : L.length ≤ 12 := by rw [HN.out]; exact hll
        have s3 := dbl_len L
        have s1 := joinL_length L
        have s2 := joinL_length (dbl L)
        have s8 := prS_len L []
        have hqo : outS false false (39 :: dbl L ++ [39]) = some (lit L, true, true) := by
          rw [List.cons_append, outS_cons, if_pos rfl, if_neg (by decide), out_append, dbl_first L hex]
          simp [outS]
        have hqv : Vl (39 :: dbl L ++ [39]) := by
          intro c hc
          rcases List.mem_append.1 hc with hc | hc
          · rcases List.mem_cons.1 hc with rfl | hc
            · exact vl39
            · exact dbl_vl hvl c hc
          · rw [List.mem_singleton.1 hc]; exact vl39
        have HP1 := Lib.hid (fun u => parse_of_lit hqv (by simp; omega) hvl hne true hqo u)
        obtain ⟨pb, hpb⟩ := prS_out L []
        rw [List.nil_append] at hpb
        have HP2 := Lib.hid (fun u => parse_of_lit (prS_vl L [] (fun _ h => absurd h List.not_mem_nil) hvl) (by simp at s8; omega) hvl hne pb hpb u)
        have HPR := Lib.hid (fun (u : World) (B : Nat) (v : Value) (h : PV u B v ⟨lits [L], lits [], (3, []) :: lits [L], lits [], 0, 0, 0, 0, 0⟩) => (by
          have := print_any v B [L] [] 0 (.inl rfl) u h (by simp) (by decide) (fun cs hcs => by rw [List.mem_singleton.1 hcs]; exact ⟨hvl, by omega⟩) (fun cs hcs => absurd hcs List.not_mem_nil)
          simpa using this : Calls Tryd.prog 19 #[v] u fun e w' => e = .returned (.string ⟨(joinL (prS [] L ++ [35])).toArray⟩) ∧ Q u w'))
        have HRS := Lib.hid (fun (u : World) (v : Value) (h : Pc.LstP u v (lits [L])) => (by
          have hf : (lits [L]).flatMap (rsP ⟨#[99]⟩ ⟨#[112]⟩ ⟨#[109]⟩) = joinL L := by simp [lits, rsP]
          have := resolveP_any v (lits [L]) ⟨#[99]⟩ ⟨#[112]⟩ ⟨#[109]⟩ u h (by show 1 ≤ 1000000; decide) (by rw [hf]; omega)
          rwa [hf] at this : Calls Tryd.prog 9 #[v, .string ⟨#[99]⟩, .string ⟨#[112]⟩, .string ⟨#[109]⟩] u fun e w' => e = .returned (.string ⟨(joinL L).toArray⟩) ∧ Q u w'))
        have hps : PS ⟨lits [L], lits [], (3, []) :: lits [L], lits [], 0, 0, 0, 0, 0⟩ := ⟨by show 1 ≤ _; decide, by show 0 ≤ _; decide, by show 2 ≤ _; decide, by show 0 ≤ _; decide⟩
        have HSM := Lib.hid (fun (u : World) (B C : Nat) (v x : Value) (h : PV u B v _) (h' : PV u C x _) => (by
          have := same_any v x _ _ u B C h h' hps hps
          rwa [decide_eq_true rfl] at this : Calls Tryd.prog 16 #[v, x] u fun e w' => e = .returned (.bool true) ∧ Q u w'))
        rw [show (⟨(joinL (39 :: dbl L ++ [39] ++ [35])).toArray⟩ : ByteArray) = ⟨#[39]⟩ ++ ⟨(joinL (dbl L)).toArray⟩ ++ ⟨#[39, 35]⟩ by
          rw [add39, List.append_assoc, List.cons_append, joinL_cons, joinL_app, show joinL ([39] ++ [35]) = [39, 35] by decide +kernel, show one 39 = [39] by decide +kernel]; simp] at HP1
        have s7 : (⟨(joinL (dbl L)).toArray⟩ : ByteArray).size ≤ 96 := by rw [← size_list]; show (joinL (dbl L)).length ≤ _; omega
        have htt := ba_same (⟨(joinL L).toArray⟩ : ByteArray)
        generalize (⟨(joinL (dbl L)).toArray⟩ : ByteArray) = D at *
        generalize (⟨(joinL L).toArray⟩ : ByteArray) = T at *
        generalize (⟨(joinL (prS [] L ++ [35])).toArray⟩ : ByteArray) = R at *
        clear s1 s2 s3 s8 hqo hqv hpb hps hex hne hvl hll2
        go_wp2_with fail
        refine (HP1.out _).mono ?_
        rintro e w3 ⟨v1, rfl, hpv1, hq3⟩
        have HPV1 := Lib.hid hpv1
        obtain ⟨a, b, c, d, rfl, ha, hb, hc, hd⟩ := hpv1
        obtain ⟨a1, a2, rfl, _, _⟩ := ha.1.form0 (show (lits [L]).length = 1 from rfl)
        obtain ⟨b1, b2, rfl, _, _⟩ := hb.1.form0 (show (lits []).length = 0 from rfl)
        obtain ⟨c1, c2, rfl, _, _⟩ := hc.1.form0 (show ((3, []) :: lits [L] : List Pc.E).length = 2 from rfl)
        obtain ⟨d1, d2, rfl, _, _⟩ := hd.1.form0 (show (lits []).length = 0 from rfl)
        have k1 := Bk.new w3 39 [.slice a1 1 a2, .slice b1 0 b2, .slice c1 2 c2, .slice d1 0 d2, .int .i64 0, .int .i64 0, .int .i64 0, .int .i64 0, .int .i64 0]
        have p0 := k1.cell 0 rfl
        have p1 := k1.cell 1 rfl
        have p2 := k1.cell 2 rfl
        have p3 := k1.cell 3 rfl
        have p4 := k1.cell 4 rfl
        have p5 := k1.cell 5 rfl
        have p6 := k1.cell 6 rfl
        have p7 := k1.cell 7 rfl
        have p8 := k1.cell 8 rfl
        have HQ3 := Lib.hid ((HQ.out.trans hq3).alloc (.cells #[.slice a1 1 a2, .slice b1 0 b2, .slice c1 2 c2, .slice d1 0 d2, .int .i64 0, .int .i64 0, .int .i64 0, .int .i64 0, .int .i64 0] 39))
        have HB1 := Lib.hid k1
        have HPV2 := Lib.hid (HPV1.out.q ((Q.refl w3).alloc (.cells #[.slice a1 1 a2, .slice b1 0 b2, .slice c1 2 c2, .slice d1 0 d2, .int .i64 0, .int .i64 0, .int .i64 0, .int .i64 0, .int .i64 0] 39)))
        clear ha hb hc hd k1 hq3 HPV1
        go_wp2_with fail
        clear p0 p1 p2 p3 p4 p5 p6 p7 p8
        refine (HPR.out _ _ _ HPV2.out).mono ?_
        rintro e w4 ⟨rfl, hq4⟩
        go_wp2_with fail
        refine (HP2.out _).mono ?_
        rintro e w5 ⟨v2, rfl, hpv2, hq5⟩
        have HPV3 := Lib.hid hpv2
        obtain ⟨a, b, c, d, rfl, ha, hb, hc, hd⟩ := hpv2
        obtain ⟨e1, e2, rfl, _, _⟩ := ha.1.form0 (show (lits [L]).length = 1 from rfl)
        obtain ⟨f1, f2, rfl, _, _⟩ := hb.1.form0 (show (lits []).length = 0 from rfl)
        obtain ⟨g1, g2, rfl, _, _⟩ := hc.1.form0 (show ((3, []) :: lits [L] : List Pc.E).length = 2 from rfl)
        obtain ⟨h1, h2, rfl, _, _⟩ := hd.1.form0 (show (lits []).length = 0 from rfl)
        have hq45 := hq4.trans (hq5.alloc (.cells #[.slice e1 1 e2, .slice f1 0 f2, .slice g1 2 g2, .slice h1 0 h2, .int .i64 0, .int .i64 0, .int .i64 0, .int .i64 0, .int .i64 0] 39))
        have HQ5 := Lib.hid (HQ3.out.trans hq45)
        have HB2 := Lib.hid (HB1.out.q hq45)
        have k1 := HB2.out
        have p0 := k1.cell 0 rfl
        have p1 := k1.cell 1 rfl
        have p2 := k1.cell 2 rfl
        have p3 := k1.cell 3 rfl
        have p4 := k1.cell 4 rfl
        have p5 := k1.cell 5 rfl
        have p6 := k1.cell 6 rfl
        have p7 := k1.cell 7 rfl
        have p8 := k1.cell 8 rfl
        have k2 := Bk.new w5 39 [.slice e1 1 e2, .slice f1 0 f2, .slice g1 2 g2, .slice h1 0 h2, .int .i64 0, .int .i64 0, .int .i64 0, .int .i64 0, .int .i64 0]
        have r0 := k2.cell 0 rfl
        have r1 := k2.cell 1 rfl
        have r2 := k2.cell 2 rfl
        have r3 := k2.cell 3 rfl
        have r4 := k2.cell 4 rfl
        have r5 := k2.cell 5 rfl
        have r6 := k2.cell 6 rfl
        have r7 := k2.cell 7 rfl
        have r8 := k2.cell 8 rfl
        have HPV4 := Lib.hid (HPV2.out.q hq45)
        have HPV5 := Lib.hid (HPV3.out.q ((Q.refl w5).alloc (.cells #[.slice e1 1 e2, .slice f1 0 f2, .slice g1 2 g2, .slice h1 0 h2, .int .i64 0, .int .i64 0, .int .i64 0, .int .i64 0, .int .i64 0] 39)))
        clear ha hb hc hd k1 k2 hq4 hq5 hq45 HPV2 HPV3 HB1
        go_wp2_with fail
        clear p0 p1 p2 p3 p4 p5 p6 p7 p8 r0 r1 r2 r3 r4 r5 r6 r7 r8
        refine (HSM.out _ _ _ _ _ HPV4.out HPV5.out).mono ?_
        rintro e w6 ⟨rfl, hq6⟩
        have k1 := HB2.out.q hq6
        have p0 := k1.cell 0 rfl
        obtain ⟨_, _, _, _, hve, hl6, _⟩ := HPV4.out.q hq6
        cases hve
        have HL6 := Lib.hid hl6.1
        clear k1 hl6
        have HQ6 := Lib.hid (HQ5.out.trans hq6)
        have HB6 := Lib.hid (HB2.out.q hq6)
        clear hq6
        go_wp2_with fail
        clear p0
        refine (HRS.out _ _ HL6.out).mono ?_
        rintro e w7 ⟨rfl, hq7⟩
        have k1 := HB6.out.q hq7
        have p0 := k1.cell 0 rfl
        have HQ7 := Lib.hid (HQ6.out.trans hq7)
        clear k1 hq7
        go_wp2_with fail
        clear p0
        refine (lives_any _).mono ?_
        rintro e w8 ⟨rfl, hq8⟩
        have hqe := HQ7.out.trans hq8
        go_wp2_with fail
        go_ret
        exact ⟨rfl, hqe⟩
end Pg
end Go.Proofs.YtjloibgjnnknnaaDoor
