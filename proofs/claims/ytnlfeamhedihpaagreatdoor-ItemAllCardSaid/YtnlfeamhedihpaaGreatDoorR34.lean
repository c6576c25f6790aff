/- The document's own items: of an affix. (and more) -/
import Derived.Test.YtnlfeamhedihpaaGreatDoorR00
import Derived.Test.YtnlfeamhedihpaaGreatDoorR02
import Derived.Test.YtnlfeamhedihpaaGreatDoorR01
import Derived.Test.YtnlfeamhedihpaaGreatDoorR07
import Derived.Test.YtnlfeamhedihpaaGreatDoorR10
import Derived.Test.YtnlfeamhedihpaaGreatDoorR03
import Derived.Test.YtnlfeamhedihpaaGreatDoorR26
import Derived.Test.YtnlfeamhedihpaaGreatDoorR09
import Derived.Test.YtnlfeamhedihpaaGreatDoorR30
import Derived.Test.YtnlfeamhedihpaaGreatDoorRows
import Derived.Deep.QuietTactic
import Derived.BigQuiet
set_option linter.unusedVariables false
set_option linter.unusedSimpArgs false
namespace Go.Proofs.YtnlfeamhedihpaaGreatDoor
open Go.RowKit
namespace It
open Um Im Lo Ro
set_option maxRecDepth 100000 in
set_option maxHeartbeats 3200000 in
theorem rparts_any (r : Lm.Rec) (X : Pt.Pat) (a b c d v : Value) (l : List Pb.E) (w : World) (hL : Ro.LL w X a b c d) (hv : Pb.LstP w v l) (hl : l.length ≤ 100000) :
    Calls Tryz.prog 33 #[lV r X a b c d, v] w fun e w' => ∃ x, e = .returned x ∧ OwnI 75 w' w.heap.size x (affI r l) ∧ Q w w' := by
  obtain ⟨n, hn⟩ : ∃ n, n = l.length := ⟨_, rfl⟩
  obtain ⟨va, vc, rfl, hnc, hcm⟩ := hv.form0 hn.symm
  have HV := Lib.hid (fun u (q : Q w u) k (h : k < n) => (hv.q q).cellOf hn.symm h)
  have HT := Lib.hid (fun k (h : k < n) => affI_take r l k (by omega))
  have HTL := Lib.hid (fun k (h : k ≤ n) => show (affI r (l.take k)).length = k by rw [affI_len, List.length_take]; omega)
  have HE := Lib.hid (show affI r (l.take n) = affI r l by rw [hn, List.take_length])
  have HAF := Lib.hid (show ∀ k, affE r (l.getD k (false, [])) = if (l.getD k (false, [])).1 = true then (1, Lm.bs r.min, -1) else (0, Lm.bs (l.getD k (false, [])).2, -1) from fun _ => rfl)
  unfold maxLen at hcm
  rw [← hn] at hl
  obtain ⟨a1, a2, rfl⟩ := hL.1.shape
  obtain ⟨b1, b2, rfl⟩ := hL.2.1.shape
  obtain ⟨c1, c2, rfl⟩ := hL.2.2.1.shape
  obtain ⟨d1, d2, rfl⟩ := hL.2.2.2.shape
  clear hL hv hn
  unfold lV
  generalize X.pre.length = n1 at *
  generalize X.suf.length = n2 at *
  generalize X.npre.length = n3 at *
  generalize X.nsuf.length = n4 at *
  generalize X.pr = p0 at *
  generalize X.se = p1 at *
  generalize X.mi = p2 at *
  generalize X.mf = p3 at *
  generalize X.xf = p4 at *
  generalize Lm.bs r.nam = s0 at *
  generalize Lm.bs r.pat = s1 at *
  generalize Lm.bs r.sys = s2 at *
  generalize Lm.bs r.dec = s3 at *
  generalize Lm.bs r.grp = s4 at *
  generalize Lm.bs r.min = s5 at *
  generalize Lm.bs r.per = s6 at *
  generalize Lm.bs r.cur = s7 at *
  obtain ⟨z, hz⟩ : ∃ z, z = w.alloc (.cells #[.string s0, .string s1, .string s2, .string s3, .string s4, .string s5, .string s6, .string s7, .slice a1 n1 a2, .slice b1 n2 b2, .slice c1 n3 c2, .slice d1 n4 d2, .int .i64 p0, .int .i64 p1, .int .i64 p2, .int .i64 p3, .int .i64 p4] 34) := ⟨_, rfl⟩
  have HQZ := Lib.hid (show Q w z by rw [hz]; exact (Q.refl w).alloc _)
  have HBZ := Lib.hid (show Bk z w.heap.size 34 [.string s0, .string s1, .string s2, .string s3, .string s4, .string s5, .string s6, .string s7, .slice a1 n1 a2, .slice b1 n2 b2, .slice c1 n3 c2, .slice d1 n4 d2, .int .i64 p0, .int .i64 p1, .int .i64 p2, .int .i64 p3, .int .i64 p4] by rw [hz]; exact Bk.new _ _ _)
  go_enter Tryz.func33, Tryz.ntmps33
  go_upto_region 1 with fail
  rw [← hz]
  clear hz
  obtain ⟨bz, hbz⟩ : ∃ b, b = w.heap.size := ⟨_, rfl⟩
  rw [← hbz] at HBZ ⊢
  clear hbz
  go_wp2_with fail
  go_loopw [5, 6] (fun x i wr => ∃ k : Nat, i = .int .i64 k ∧ k ≤ n ∧ OwnI 75 wr z.heap.size x (affI r (l.take k)) ∧ Q z wr) (fun _ i _ => n - (intOf i).toNat)
  case atStart => exact ⟨0, rfl, by omega, OwnI.nil _ _ _, Q.refl _⟩
  case round =>
    obtain ⟨k, rfl, hk, ho, hq⟩ := hrel
    by_cases hlt : k < n
    · obtain ⟨gg, off, cap, hvv, hg, _, _, c1', c2'⟩ := HV.out wr (HQZ.out.trans hq) k hlt
      cases hvv
      have HTK := Lib.hid (HT.out k hlt)
      rw [HAF.out] at HTK
      have hlk := HTL.out k hk
      generalize l.getD k (false, []) = e0' at *
      obtain ⟨eb, et⟩ := e0'
      dsimp only at c1' c2' HTK
      unfold Pb.txt at c2'
      obtain ⟨T, hT⟩ : ∃ T, T = (⟨et.toArray⟩ : ByteArray) := ⟨_, rfl⟩
      rw [← hT] at c2'
      have HOZ := Lib.hid ho
      have hol := ho.lst
      obtain ⟨xa, xc, rfl, _, _⟩ := hol.form0 hlk
      have hle := hq.le
      have HQ := Lib.hid hq
      have x5 := (HBZ.out.q hq).cell 5 rfl
      clear ho hol hq
      cases eb
      · have HK2 := Lib.hid (show affI r (l.take (k + 1)) = affI r (l.take k) ++ [(0, T, -1)] by rw [HTK.out, hT]; rfl)
        clear HTK hT
        go_wp2_with (at_builtin; refine Im.push elR HOZ.out rfl _ _ rfl 0 T (-1) (by rfl) (by rfl) (by omega) hle ?_)
        intro v' w3 ho3 hg3 hat3
        have HQ3 := Lib.hid (HQ.out.grown hg3 (fun j h => (HOZ.out.lt j h).1))
        have HO3 := Lib.hid (show OwnI 75 w3 z.heap.size v' (affI r (l.take (k + 1))) by rw [HK2.out]; exact ho3)
        clear ho3 hg3 hat3 c1' c2' x5
        go_wp2_with fail
        exact ⟨⟨k + 1, by go_num, by omega, HO3.out, HQ3.out⟩, by simp [intOf]; omega⟩
      · have HK2 := Lib.hid (show affI r (l.take (k + 1)) = affI r (l.take k) ++ [(1, s5, -1)] by rw [HTK.out]; rfl)
        clear HTK hT
        go_wp2_with (at_builtin; refine Im.push elR HOZ.out rfl _ _ rfl 1 s5 (-1) (by rfl) (by rfl) (by omega) hle ?_)
        intro v' w3 ho3 hg3 hat3
        have HQ3 := Lib.hid (HQ.out.grown hg3 (fun j h => (HOZ.out.lt j h).1))
        have HO3 := Lib.hid (show OwnI 75 w3 z.heap.size v' (affI r (l.take (k + 1))) by rw [HK2.out]; exact ho3)
        clear ho3 hg3 hat3 c1' c2' x5
        go_wp2_with fail
        exact ⟨⟨k + 1, by go_num, by omega, HO3.out, HQ3.out⟩, by simp [intOf]; omega⟩
    · obtain rfl : k = n := by omega
      rw [HE.out] at ho
      have HO := Lib.hid (ho.mono HQZ.out.le)
      have HQ := Lib.hid (HQZ.out.trans hq)
      clear ho hq
      go_wp2_with fail
      go_ret
      exact ⟨_, rfl, HO.out, HQ.out⟩
end It
end Go.Proofs.YtnlfeamhedihpaaGreatDoor
