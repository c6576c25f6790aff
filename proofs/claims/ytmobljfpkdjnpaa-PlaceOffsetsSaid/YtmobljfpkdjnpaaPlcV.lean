/- Where a word of a map ends. -/
import Derived.Test.YtmobljfpkdjnpaaRows
import Derived.Test.YtmobljfpkdjnpaaInts
import Derived.Test.YtmobljfpkdjnpaaEls
import Derived.Test.YtmobljfpkdjnpaaPlcM
import Derived.Test.YtmobljfpkdjnpaaPlcW
import Derived.Test.YtmobljfpkdjnpaaPlcC
set_option linter.unusedVariables false
set_option linter.unusedSimpArgs false
namespace Go.Proofs.Ytmobljfpkdjnpaa
open Go.RowKit Um Cm Gm Pm

theorem pc_le (T : ByteArray) (S : List Int) (k : Nat) : (pc T S k).size ≤ T.size := by
  unfold pc
  rw [ByteArray.size_extract]; omega
set_option maxHeartbeats 400000 in
theorem mblank_any (b : Nat) (s : ByteArray) (k : Nat) (w : World) (h : Mp w b s) (hk : k < nC s) (hs : s.size ≤ 1073741824) :
    Calls Try.prog 33 #[.pointer (some ⟨b, 0, none⟩), .int .i64 k] w fun e w' => e = .returned (.bool (blk s k)) ∧ Q w w' := by
  obtain ⟨hb, v, u, h0, h1, h2, hv, hu⟩ := h
  obtain ⟨g, off, cap, rfl, hg, _, _, c1⟩ := hv.cellOf (pcs_nC s) (pcs_at s k hk)
  have hz := pc_le s (stL1 s.data.toList) k
  have hB : blk s k = blankB (fst3 (pc s (stL1 s.data.toList) k).data.toList).1 := rfl
  rw [hB]
  generalize pc s (stL1 s.data.toList) k = q at c1 hz ⊢
  have HF := Lib.hid (fun w => first_any q w (by unfold maxLen; omega))
  generalize (fst3 q.data.toList).1 = c at HF ⊢
  have HB := Lib.hid (fun w => blank_any c w)
  generalize blankB c = r at HB ⊢
  generalize hn : nC s = n at *
  clear hv hu hn hB
  go_enter Try.func33, Try.ntmps33
  go_wp2_with fail
  refine (HF.out _).mono ?_
  rintro e w1 ⟨rfl, hq⟩
  go_wp2_with fail
  refine (HB.out _).mono ?_
  rintro e w2 ⟨rfl, rfl⟩
  go_wp2_with fail
  go_ret
  exact ⟨rfl, hq⟩
set_option maxHeartbeats 400000 in
theorem mother_any (b : Nat) (s : ByteArray) (k : Nat) (w : World) (h : Mp w b s) (hk : k < nC s) (hs : s.size ≤ 1073741824) :
    Calls Try.prog 34 #[.pointer (some ⟨b, 0, none⟩), .int .i64 k] w fun e w' => e = .returned (.bool (!blk s k)) ∧ Q w w' := by
  have HB := Lib.hid (mblank_any b s k w h hk hs)
  go_enter Try.func34, Try.ntmps34
  go_wp2_with fail
  refine HB.out.mono ?_
  rintro e w1 ⟨rfl, hq⟩
  go_wp2_with fail
  go_ret
  exact ⟨rfl, hq⟩
theorem skR_at (p : Nat → Bool) (n k : Nat) (h : k < n) : skR p (n - k) k = if p k = true then skR p (n - (k + 1)) (k + 1) else k := by
  obtain ⟨d, hd⟩ : ∃ d, n - k = d + 1 := ⟨n - k - 1, by omega⟩
  rw [hd, show n - (k + 1) = d from by omega]; rfl
theorem skL_at (p : Nat → Bool) (k : Nat) (h : 0 < k) : skL p k = if p (k - 1) = true then skL p (k - 1) else k := by
  obtain ⟨d, rfl⟩ : ∃ d, k = d + 1 := ⟨k - 1, by omega⟩
  rw [Nat.add_sub_cancel]; rfl

set_option maxHeartbeats 800000 in
theorem mright_blank (b : Nat) (s : ByteArray) (i : Nat) (w : World) (h : Mp w b s) (hi : i ≤ nC s) (hs : s.size ≤ 1073741824) :
    Calls Try.prog 32 #[.pointer (some ⟨b, 0, none⟩), .int .i64 i, .func (.func 33) #[.pointer (some ⟨b, 0, none⟩)] #[]] w fun e w' => e = .returned (.int .i64 (skR (blk s) (nC s - i) i : Nat)) ∧ Q w w' := by
  have HL := Lib.hid (fun w h => mlen_any b s w h)
  have HM := Lib.hid h
  have hn := nC_le s
  have HB := Lib.hid (fun k w h hk => mblank_any b s k w h hk hs)
  have HS := Lib.hid (fun k h => skR_at (blk s) (nC s) k h)
  generalize hJ : skR (blk s) (nC s - i) i = J
  have HJ := Lib.hid hJ
  generalize hP : (blk s) = p at *
  have hPK : ∀ k, p k = (blk s) k := fun k => by rw [hP]
  have HPK := Lib.hid hPK
  generalize hN : nC s = n at *
  clear h hP hPK hJ
  go_enter Try.func32, Try.ntmps32
  go_wp2_with fail
  go_loopw [1] (fun v wr => ∃ k : Nat, v = .int .i64 k ∧ k ≤ n ∧ skR p (n - k) k = J ∧ Q w wr) (fun v _ => n - (intOf v).toNat)
  case atStart => exact ⟨i, rfl, hi, HJ.out, Q.refl _⟩
  case round =>
    obtain ⟨k, rfl, hk, hj, hq⟩ := hrel
    by_cases hlt : k < n
    · have hst := HS.out k hlt
      rw [hj] at hst
      have hb := fun w h => HB.out k w h hlt
      try simp only at hb
      try rw [← HPK.out k] at hb
      try rw [← HPK.out k] at hst
      have HBK := Lib.hid hb
      clear hb hj
      cases hp : p k
      · rw [hp] at hst HBK
        have hst2 : J = k := hst
        clear hst hp
        subst hst2
        go_wp2_with fail
        refine (HL.out _ (HM.out.q hq)).mono ?_
        rintro e w1 ⟨rfl, rfl⟩
        go_wp2_with fail
        refine (HBK.out _ (HM.out.q hq)).mono ?_
        rintro e w2 ⟨rfl, hq2⟩
        go_wp2_with fail
        go_ret
        exact ⟨rfl, hq.trans hq2⟩
      · rw [hp] at hst HBK
        have hst2 : J = skR p (n - (k + 1)) (k + 1) := hst
        have HT := Lib.hid hst2
        clear hst hp hst2
        go_wp2_with fail
        refine (HL.out _ (HM.out.q hq)).mono ?_
        rintro e w1 ⟨rfl, rfl⟩
        go_wp2_with fail
        refine (HBK.out _ (HM.out.q hq)).mono ?_
        rintro e w2 ⟨rfl, hq2⟩
        go_wp2_with fail
        go_roundw
        case rel => exact ⟨k + 1, by go_num, by omega, HT.out.symm, hq.trans hq2⟩
        case measure => simp [intOf]; omega
    · have hke : k = n := by omega
      subst hke
      have hj2 : k = J := by rw [← hj, Nat.sub_self]; rfl
      subst hj2
      clear hj
      go_wp2_with fail
      refine (HL.out _ (HM.out.q hq)).mono ?_
      rintro e w1 ⟨rfl, rfl⟩
      go_wp2_with fail
      go_ret
      exact ⟨rfl, hq⟩
set_option maxHeartbeats 800000 in
theorem mleft_blank (b : Nat) (s : ByteArray) (i : Nat) (w : World) (h : Mp w b s) (hi : i ≤ nC s) (hs : s.size ≤ 1073741824) :
    Calls Try.prog 35 #[.pointer (some ⟨b, 0, none⟩), .int .i64 i, .func (.func 33) #[.pointer (some ⟨b, 0, none⟩)] #[]] w fun e w' => e = .returned (.int .i64 (skL (blk s) i : Nat)) ∧ Q w w' := by
  have HM := Lib.hid h
  have hn := nC_le s
  have HB := Lib.hid (fun k w h hk => mblank_any b s k w h hk hs)
  have HS := Lib.hid (fun k h => skL_at (blk s) k h)
  generalize hJ : skL (blk s) i = J
  have HJ := Lib.hid hJ
  generalize hP : (blk s) = p at *
  have hPK : ∀ k, p k = (blk s) k := fun k => by rw [hP]
  have HPK := Lib.hid hPK
  generalize hN : nC s = n at *
  clear h hP hPK hJ
  go_enter Try.func35, Try.ntmps35
  go_wp2_with fail
  go_loopw [1] (fun v wr => ∃ k : Nat, v = .int .i64 k ∧ k ≤ n ∧ skL p k = J ∧ Q w wr) (fun v _ => (intOf v).toNat)
  case atStart => exact ⟨i, rfl, hi, HJ.out, Q.refl _⟩
  case round =>
    obtain ⟨k, rfl, hk, hj, hq⟩ := hrel
    by_cases hlt : 0 < k
    · have hst := HS.out k hlt
      rw [hj] at hst
      have hb := fun w h => HB.out (k - 1) w h (by omega)
      try simp only at hb
      try rw [← HPK.out (k - 1)] at hb
      try rw [← HPK.out (k - 1)] at hst
      have e1 : ((k : Int) - 1) = ((k - 1 : Nat) : Int) := by omega
      have e2 : IntKind.i64.wrap ((k : Int) - 1) = ((k - 1 : Nat) : Int) := by rw [e1]; exact IntWalk.i64_in _ (by omega)
      have HBK := Lib.hid hb
      clear hb hj
      cases hp : p (k - 1)
      · rw [hp] at hst HBK
        have hst2 : J = k := hst
        clear hst hp
        subst hst2
        go_wp2_with fail
        try rw [e1]
        refine (HBK.out _ (HM.out.q hq)).mono ?_
        rintro e w2 ⟨rfl, hq2⟩
        go_wp2_with fail
        go_ret
        exact ⟨rfl, hq.trans hq2⟩
      · rw [hp] at hst HBK
        have hst2 : J = skL p (k - 1) := hst
        have HT := Lib.hid hst2
        clear hst hp hst2
        go_wp2_with fail
        try rw [e1]
        refine (HBK.out _ (HM.out.q hq)).mono ?_
        rintro e w2 ⟨rfl, hq2⟩
        go_wp2_with fail
        go_roundw
        case rel => exact ⟨k - 1, by go_num, by omega, HT.out.symm, hq.trans hq2⟩
        case measure => simp [intOf]; omega
    · have hke : k = 0 := by omega
      subst hke
      have hj2 : 0 = J := by rw [← hj]; rfl
      subst hj2
      clear hj
      go_wp2_with fail
      go_ret
      exact ⟨rfl, hq⟩

set_option maxHeartbeats 800000 in
theorem mright_other (b : Nat) (s : ByteArray) (i : Nat) (w : World) (h : Mp w b s) (hi : i ≤ nC s) (hs : s.size ≤ 1073741824) :
    Calls Try.prog 32 #[.pointer (some ⟨b, 0, none⟩), .int .i64 i, .func (.func 34) #[.pointer (some ⟨b, 0, none⟩)] #[]] w fun e w' => e = .returned (.int .i64 (skR (fun k => !blk s k) (nC s - i) i : Nat)) ∧ Q w w' := by
  have HL := Lib.hid (fun w h => mlen_any b s w h)
  have HM := Lib.hid h
  have hn := nC_le s
  have HB := Lib.hid (fun k w h hk => mother_any b s k w h hk hs)
  have HS := Lib.hid (fun k h => skR_at (fun k => !blk s k) (nC s) k h)
  generalize hJ : skR (fun k => !blk s k) (nC s - i) i = J
  have HJ := Lib.hid hJ
  generalize hP : (fun k => !blk s k) = p at *
  have hPK : ∀ k, p k = (fun k => !blk s k) k := fun k => by rw [hP]
  have HPK := Lib.hid hPK
  generalize hN : nC s = n at *
  clear h hP hPK hJ
  go_enter Try.func32, Try.ntmps32
  go_wp2_with fail
  go_loopw [1] (fun v wr => ∃ k : Nat, v = .int .i64 k ∧ k ≤ n ∧ skR p (n - k) k = J ∧ Q w wr) (fun v _ => n - (intOf v).toNat)
  case atStart => exact ⟨i, rfl, hi, HJ.out, Q.refl _⟩
  case round =>
    obtain ⟨k, rfl, hk, hj, hq⟩ := hrel
    by_cases hlt : k < n
    · have hst := HS.out k hlt
      rw [hj] at hst
      have hb := fun w h => HB.out k w h hlt
      try simp only at hb
      try rw [← HPK.out k] at hb
      try rw [← HPK.out k] at hst
      have HBK := Lib.hid hb
      clear hb hj
      cases hp : p k
      · rw [hp] at hst HBK
        have hst2 : J = k := hst
        clear hst hp
        subst hst2
        go_wp2_with fail
        refine (HL.out _ (HM.out.q hq)).mono ?_
        rintro e w1 ⟨rfl, rfl⟩
        go_wp2_with fail
        refine (HBK.out _ (HM.out.q hq)).mono ?_
        rintro e w2 ⟨rfl, hq2⟩
        go_wp2_with fail
        go_ret
        exact ⟨rfl, hq.trans hq2⟩
      · rw [hp] at hst HBK
        have hst2 : J = skR p (n - (k + 1)) (k + 1) := hst
        have HT := Lib.hid hst2
        clear hst hp hst2
        go_wp2_with fail
        refine (HL.out _ (HM.out.q hq)).mono ?_
        rintro e w1 ⟨rfl, rfl⟩
        go_wp2_with fail
        refine (HBK.out _ (HM.out.q hq)).mono ?_
        rintro e w2 ⟨rfl, hq2⟩
        go_wp2_with fail
        go_roundw
        case rel => exact ⟨k + 1, by go_num, by omega, HT.out.symm, hq.trans hq2⟩
        case measure => simp [intOf]; omega
    · have hke : k = n := by omega
      subst hke
      have hj2 : k = J := by rw [← hj, Nat.sub_self]; rfl
      subst hj2
      clear hj
      go_wp2_with fail
      refine (HL.out _ (HM.out.q hq)).mono ?_
      rintro e w1 ⟨rfl, rfl⟩
      go_wp2_with fail
      go_ret
      exact ⟨rfl, hq⟩
set_option maxHeartbeats 800000 in
theorem mleft_other (b : Nat) (s : ByteArray) (i : Nat) (w : World) (h : Mp w b s) (hi : i ≤ nC s) (hs : s.size ≤ 1073741824) :
    Calls Try.prog 35 #[.pointer (some ⟨b, 0, none⟩), .int .i64 i, .func (.func 34) #[.pointer (some ⟨b, 0, none⟩)] #[]] w fun e w' => e = .returned (.int .i64 (skL (fun k => !blk s k) i : Nat)) ∧ Q w w' := by
  have HM := Lib.hid h
  have hn := nC_le s
  have HB := Lib.hid (fun k w h hk => mother_any b s k w h hk hs)
  have HS := Lib.hid (fun k h => skL_at (fun k => !blk s k) k h)
  generalize hJ : skL (fun k => !blk s k) i = J
  have HJ := Lib.hid hJ
  generalize hP : (fun k => !blk s k) = p at *
  have hPK : ∀ k, p k = (fun k => !blk s k) k := fun k => by rw [hP]
  have HPK := Lib.hid hPK
  generalize hN : nC s = n at *
  clear h hP hPK hJ
  go_enter Try.func35, Try.ntmps35
  go_wp2_with fail
  go_loopw [1] (fun v wr => ∃ k : Nat, v = .int .i64 k ∧ k ≤ n ∧ skL p k = J ∧ Q w wr) (fun v _ => (intOf v).toNat)
  case atStart => exact ⟨i, rfl, hi, HJ.out, Q.refl _⟩
  case round =>
    obtain ⟨k, rfl, hk, hj, hq⟩ := hrel
    by_cases hlt : 0 < k
    · have hst := HS.out k hlt
      rw [hj] at hst
      have hb := fun w h => HB.out (k - 1) w h (by omega)
      try simp only at hb
      try rw [← HPK.out (k - 1)] at hb
      try rw [← HPK.out (k - 1)] at hst
      have e1 : ((k : Int) - 1) = ((k - 1 : Nat) : Int) := by omega
      have e2 : IntKind.i64.wrap ((k : Int) - 1) = ((k - 1 : Nat) : Int) := by rw [e1]; exact IntWalk.i64_in _ (by omega)
      have HBK := Lib.hid hb
      clear hb hj
      cases hp : p (k - 1)
      · rw [hp] at hst HBK
        have hst2 : J = k := hst
        clear hst hp
        subst hst2
        go_wp2_with fail
        try rw [e1]
        refine (HBK.out _ (HM.out.q hq)).mono ?_
        rintro e w2 ⟨rfl, hq2⟩
        go_wp2_with fail
        go_ret
        exact ⟨rfl, hq.trans hq2⟩
      · rw [hp] at hst HBK
        have hst2 : J = skL p (k - 1) := hst
        have HT := Lib.hid hst2
        clear hst hp hst2
        go_wp2_with fail
        try rw [e1]
        refine (HBK.out _ (HM.out.q hq)).mono ?_
        rintro e w2 ⟨rfl, hq2⟩
        go_wp2_with fail
        go_roundw
        case rel => exact ⟨k - 1, by go_num, by omega, HT.out.symm, hq.trans hq2⟩
        case measure => simp [intOf]; omega
    · have hke : k = 0 := by omega
      subst hke
      have hj2 : 0 = J := by rw [← hj]; rfl
      subst hj2
      clear hj
      go_wp2_with fail
      go_ret
      exact ⟨rfl, hq⟩

end Go.Proofs.Ytmobljfpkdjnpaa
