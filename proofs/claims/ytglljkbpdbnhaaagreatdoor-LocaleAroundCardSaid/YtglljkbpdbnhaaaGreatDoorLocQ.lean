/- Parts without the empty ones; where the minus stands in an affix; an affix as it stands around a number. -/
import Derived.Test.YtglljkbpdbnhaaaGreatDoorRows
import Derived.Test.YtglljkbpdbnhaaaGreatDoorMA
import Derived.Test.YtglljkbpdbnhaaaGreatDoorMB
import Derived.Test.YtglljkbpdbnhaaaGreatDoorMBP
import Derived.Test.YtglljkbpdbnhaaaGreatDoorLocM
import Derived.Test.YtglljkbpdbnhaaaGreatDoorLocB
import Derived.Test.YtglljkbpdbnhaaaGreatDoorLocC
import Derived.Test.YtglljkbpdbnhaaaGreatDoorLocP
import Derived.Deep.QuietTactic
import Derived.BigQuiet
import Derived.Lib.SliceRun
import Derived.Lib.LazyBuf
import Derived.Laws.IdiomCopy
set_option linter.unusedVariables false
set_option linter.unusedSimpArgs false
namespace Go.Proofs.YtglljkbpdbnhaaaGreatDoor
open Go.RowKit
namespace Lo
open Um Cm Gm


theorem LstP_of {w : World} {g n cap : Nat} {L : List Value} {l : List Pb.E} (hb : Bk w g 58 L) (hn : l.length = n) (hc : n ≤ cap) (hm : cap ≤ maxLen) (hL : L.take (n * 2) = Pb.flat l) : Pb.LstP w (.slice (some ⟨g, 0, none⟩) n cap) l := by
  subst hn
  refine .inr ⟨g, 0, cap, rfl, hb.lt, hc, hm, fun i hi => ?_⟩
  obtain ⟨f1, f2⟩ := Pb.flat_get l i hi
  rw [← hL, List.getElem?_take, if_pos (by omega)] at f1 f2
  rw [Nat.zero_add]
  exact ⟨hb.cell _ f1, hb.cell _ f2⟩
theorem size_setCs (g : Nat) : ∀ (Z : List Value) (o : Nat) (w : World), (w.setCells g o Z).heap.size = w.heap.size
  | [], o, w => rfl
  | z :: Z, o, w => by
    show ((w.setCell ⟨g, o, none⟩ z).setCells g (o + 1) Z).heap.size = _
    rw [size_setCs g Z (o + 1)]
    unfold World.setCell
    simp
theorem heap_le_setCells (w : World) (g o : Nat) (Z : List Value) : w.heap.size ≤ (w.setCells g o Z).heap.size := Nat.le_of_eq (size_setCs g Z o w).symm
theorem LstP_set {w : World} {g n cap : Nat} {l : List Pb.E} (h : Pb.LstP w (.slice (some ⟨g, 0, none⟩) n cap) l) (Z : List Value) : Pb.LstP (w.setCells g (n * 2) Z) (.slice (some ⟨g, 0, none⟩) n cap) l := by
  rcases h with ⟨rfl, a, c, hv, hc, hn⟩ | ⟨g', off, cap', hv, hg, h1, h2, hc⟩
  · cases hv
    exact .nil _ _ _ hc hn
  · cases hv
    refine .inr ⟨g, 0, cap, rfl, ?_, h1, h2, fun i hi => ?_⟩
    · exact Nat.lt_of_lt_of_le hg (heap_le_setCells w g (l.length * 2) Z)
    · obtain ⟨c1, c2⟩ := hc i hi
      constructor
      · rw [World.cell?_setCells_out g Z (l.length * 2) w _ (fun _ _ => .inl (by show 0 + i * 2 < l.length * 2; omega))]; exact c1
      · rw [World.cell?_setCells_out g Z (l.length * 2) w _ (fun _ _ => .inl (by show 0 + i * 2 + 1 < l.length * 2; omega))]; exact c2
set_option maxRecDepth 100000 in
set_option maxHeartbeats 4000000 in
theorem del_any (g n cap B : Nat) (l : List Pb.E) (w0 w : World) (hq0 : Q w0 w) (hB : w0.heap.size ≤ g) (ho : Pb.OwnE 58 w B (.slice (some ⟨g, 0, none⟩) n cap) l) (hn : l.length = n) (hl : n ≤ 1000) :
    Calls Tryz.prog 92 #[.slice (some ⟨g, 0, none⟩) n cap, .func (.func 93) #[] #[]] w fun e w' => ∃ v, e = .returned v ∧ Pb.LstP w' v (l.filter keepP) ∧ Q w0 w' := by
  have hlst := ho.lst
  rcases ho.2 with ⟨hv, _⟩ | ⟨g', cap', cur, hv, hgB, hh, hnc, hcm, hcs, ht⟩
  · cases hv
  · cases hv
    have hbk : Bk w g 58 cur.toList := by unfold Bk; simpa using hh
    have hlen : cur.toList.length = cap * 2 := by simpa using hcs
    have htk : cur.toList.take (l.length * 2) = Pb.flat l := ht
    generalize cur.toList = L0 at *
    clear hn
    obtain ⟨n, hn⟩ : ∃ n, l.length = n := ⟨_, rfl⟩
    rw [hn] at hnc hl hlst ⊢
    have HI := Lib.hid (idxPt _ l w hlst (by omega))
    have HLS := Lib.hid hlst
    have HBK := Lib.hid hbk
    have HLEN := Lib.hid hlen
    have HTK := Lib.hid htk
    have HN := Lib.hid hn
    have HQ0 := Lib.hid hq0
    have HB := Lib.hid hB
    have hcap : cap ≤ 9223372036854775807 := by unfold maxLen at hcm; omega
    have HCM := Lib.hid hcm
    clear ho hh hcs ht hbk hlen htk hn hq0 hB hlst hcm
    go_enter Tryz.func92, Tryz.ntmps92
    go_wp2_with fail
    refine HI.out.mono ?_
    rintro e w1 ⟨⟨r, rfl, hr⟩, hq1⟩
    rcases hr with ⟨rfl, hall⟩ | ⟨k, rfl, hk, hpre, hdel⟩
    · have HF := Lib.hid (show l.filter keepP = l from List.filter_eq_self.2 hall)
      have HL1 := Lib.hid (HLS.out.q hq1)
      clear hall
      go_wp2_with fail
      go_ret
      refine ⟨_, rfl, ?_, HQ0.out.trans hq1⟩
      rw [HF.out]; exact HL1.out
    · have hkn : k < n := by have := HN.out; omega
      have hb1 : ((k : Int) == -1) = false := by rw [beq_eq_false_iff_ne]; omega
      have HK0 := Lib.hid (KI.start hk HTK.out hpre hdel)
      have HBK1 := Lib.hid (HBK.out.q hq1)
      have HQ1 := Lib.hid (HQ0.out.trans hq1)
      clear hk hpre hdel hq1
      go_wp2_with fail
      go_loopw [5, 6] (fun vi vj wr => ∃ (i j : Nat) (L : List Value), vi = .int .i64 i ∧ vj = .int .i64 j ∧ i < j ∧ j ≤ n ∧ Hid (KI l L0 i j L) ∧ Bk wr g 58 L ∧ Q w0 wr) (fun _ j _ => n - (intOf j).toNat)
      case atStart => exact ⟨k, k + 1, L0, rfl, by go_num, by omega, by omega, HK0, HBK1.out, HQ1.out⟩
      case round =>
        obtain ⟨i, j, L, rfl, rfl, hij, hj, HK, hbk, hq⟩ := hrel
        have HBW := Lib.hid hbk
        by_cases hlt : j < n
        · have hlti : (j : Int) < (n : Int) := by omega
          have hjl : j < l.length := by have := HN.out; omega
          obtain ⟨e1, e2⟩ := HK.out.cells hjl HTK.out
          have c1 := hbk.cell _ e1
          have c2 := hbk.cell _ e2
          have HJL := Lib.hid hjl
          obtain ⟨p, hp⟩ : ∃ p, p = l.getD j (false, []) := ⟨_, rfl⟩
          have HP := Lib.hid hp
          rw [← hp] at c1 c2
          obtain ⟨pb, pt⟩ := p
          unfold Pb.txt at c2
          simp only at c1 c2
          clear e1 e2 hjl hp hbk
          have hin : i < n := by omega
          have hini : (i : Int) < (n : Int) := by omega
          have hq2 := hq.alloc (.cells #[.bool pb, .string ⟨pt.toArray⟩] 58)
          have hc := part1_any pb pt (wr.alloc (.cells #[.bool pb, .string ⟨pt.toArray⟩] 58))
          have HQ2 := Lib.hid hq2
          have HBW2 := Lib.hid (HBW.out.q ((Q.refl wr).alloc (.cells #[.bool pb, .string ⟨pt.toArray⟩] 58)))
          have HV2 := Lib.hid (Bk.new wr 58 [.bool pb, .string ⟨pt.toArray⟩])
          have HGW := Lib.hid (show g < wr.heap.size from HBW.out.lt)
          clear hq2
          cases hkp : keepP (pb, pt) with
          | true =>
            rw [hkp] at hc
            have HC := Lib.hid hc
            have HKP := Lib.hid (show keepP (l.getD j (false, [])) = true by rw [← HP.out]; exact hkp)
            clear hc hkp
            have HPT : Hid (Pb.txt pt = .string ⟨pt.toArray⟩) := Lib.hid rfl
            generalize (⟨pt.toArray⟩ : ByteArray) = T at *
            go_wp2_with fail
            refine HC.out.mono ?_
            rintro e w3 ⟨rfl, hq3⟩
            have hb3 := HBW2.out.q hq3
            have hL := HK.out.len
            have hLL := HLEN.out
            obtain ⟨x1, hx1⟩ : ∃ x, L[i * 2]? = some x := ⟨_, List.getElem?_eq_getElem (by omega)⟩
            obtain ⟨x2, hx2⟩ : ∃ x, L[i * 2 + 1]? = some x := ⟨_, List.getElem?_eq_getElem (by omega)⟩
            have d1 := hb3.cell _ hx1
            have d2 := hb3.cell _ hx2
            have f1 := hb3.free (i * 2)
            have f2 := hb3.free (i * 2 + 1)
            have v1 := (HV2.out.q hq3).cell 0 rfl
            have v2 := (HV2.out.q hq3).cell 1 rfl
            have HB3 := Lib.hid ((hb3.set (i * 2) (.bool pb)).set (i * 2 + 1) (.string T))
            have HQ3 := Lib.hid (Q.setCell (Q.setCell (HQ2.out.trans hq3) (ad := ⟨g, i * 2, none⟩) HB.out (.bool pb)) (ad := ⟨g, i * 2 + 1, none⟩) HB.out (.string T))
            have HK3 := Lib.hid (HK.out.put HJL.out (by have := HN.out; omega) HKP.out)
            rw [← HP.out] at HK3
            simp only [HPT.out] at HK3
            clear hb3 hx1 hx2 hL hLL
            go_wp2_with fail
            exact ⟨⟨i + 1, j + 1, _, by go_num, by go_num, by omega, by omega, HK3, HB3.out, HQ3.out⟩, by simp [intOf]; omega⟩
          | false =>
            rw [hkp] at hc
            have HC := Lib.hid hc
            have HKP := Lib.hid (show keepP (l.getD j (false, [])) = false by rw [← HP.out]; exact hkp)
            clear hc hkp
            generalize (⟨pt.toArray⟩ : ByteArray) = T at *
            go_wp2_with fail
            refine HC.out.mono ?_
            rintro e w3 ⟨rfl, hq3⟩
            go_wp2_with fail
            exact ⟨⟨i, j + 1, L, by first | trivial | rfl, by go_num, by omega, by omega, Lib.hid (HK.out.skip HJL.out HKP.out), HBW2.out.q hq3, HQ2.out.trans hq3⟩, by simp [intOf]; omega⟩
        · have hnlt : ¬ (j : Int) < (n : Int) := by omega
          obtain rfl : j = n := by omega
          have hin : i < j := hij
          have hini : (i : Int) ≤ (j : Int) := by omega
          have hin2 : i ≤ j := by omega
          have hic : i ≤ cap := by omega
          have hjc : j ≤ cap := hnc
          have hL := HK.out.len
          have hLL := HLEN.out
          have hfull : l.take j = l := List.take_of_length_le (by have := HN.out; omega)
          have hcl : ∀ ty, (Builtin.clear_ #[50] ty #[.slice (some ⟨g, i * 2, none⟩) (j - i) (cap - i)]).run Tryz.prog wr = .ok (.tuple #[]) (wr.setCells g (i * 2) (Builtin.zeroCells #[.bool false, .string ByteArray.empty] (j - i)).toList) := fun ty =>
            clear_pt wr ty g (i * 2) (j - i) (cap - i) (by omega) (fun t ht => by
              have : i * 2 + t < L.length := by omega
              rw [HBW.out.cell (i * 2 + t) (List.getElem?_eq_getElem this)]; rfl) (fun t ht => HBW.out.free _)
          have HQF := Lib.hid (show Q w0 (wr.setCells g (i * 2) (Builtin.zeroCells #[.bool false, .string ByteArray.empty] (j - i)).toList) from below_setCells HB.out _ _ _ hq)
          have HLF := Lib.hid (show Pb.LstP (wr.setCells g (i * 2) (Builtin.zeroCells #[.bool false, .string ByteArray.empty] (j - i)).toList) (.slice (some ⟨g, 0, none⟩) i cap) (l.filter keepP) by
            have h1 := LstP_of (cap := cap) HBW.out HK.out.cnt hic HCM.out HK.out.pre
            rw [hfull] at h1
            exact LstP_set h1 _)
          generalize wr.setCells g (i * 2) (Builtin.zeroCells #[.bool false, .string ByteArray.empty] (j - i)).toList = wf at *
          clear hL hLL hfull hbk hq
          go_wp2_with fail
          go_ret
          exact ⟨_, rfl, HLF.out, HQF.out⟩

end Lo
end Go.Proofs.YtglljkbpdbnhaaaGreatDoor
