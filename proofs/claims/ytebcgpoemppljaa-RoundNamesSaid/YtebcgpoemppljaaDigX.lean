/- What package digit's mayAll, Sub and Times come to, by a walk through each. -/
import Derived.Test.YtebcgpoemppljaaRows
import Derived.Test.YtebcgpoemppljaaDigL
import Derived.Test.YtebcgpoemppljaaInts
import Derived.Test.YtebcgpoemppljaaSto
import Derived.Test.YtebcgpoemppljaaDigW
import Derived.Test.YtebcgpoemppljaaDigV
import Derived.Test.YtebcgpoemppljaaDigT
import Derived.Deep.QuietTactic
import Derived.Deep.RegionWith
import Derived.BigQuiet
set_option linter.unusedVariables false
set_option linter.unusedSimpArgs false
namespace Go.Proofs.Ytebcgpoemppljaa
open Go.RowKit
namespace Dw

/-- Whether all are lists of digits. -/
def okA (ls : List Sl) : Bool := ls.all fun s => Dm.okB s.zs
theorem okA_bad (ls : List Sl) (k : Nat) (s : Sl) (h : ls[k]? = some s) (hb : Dm.okB s.zs = false) : okA (ls.drop k) = false := by
  have hk := (List.getElem?_eq_some_iff.1 h).1
  rw [List.getElem?_eq_getElem hk] at h
  rw [List.drop_eq_getElem_cons hk, Option.some.inj h]
  simp [okA, hb]
theorem okA_on (ls : List Sl) (k : Nat) (s : Sl) (h : ls[k]? = some s) (hb : Dm.okB s.zs = true) : okA (ls.drop k) = okA (ls.drop (k + 1)) := by
  have hk := (List.getElem?_eq_some_iff.1 h).1
  rw [List.getElem?_eq_getElem hk] at h
  rw [List.drop_eq_getElem_cons hk, Option.some.inj h]
  simp [okA, hb]

set_option maxHeartbeats 800000 in
theorem mayAll_any (v : Value) (ls : List Sl) (w : World) (hv : LL w v ls) (hl : ls.length < 1099511627776) (hls : ∀ s ∈ ls, s.zs.length < 1099511627776) :
    Calls Try.prog 66 #[v] w fun e w' => e = .returned (.bool (okA ls)) ∧ w = w' := by
  obtain ⟨a, c, rfl⟩ := hv.1.shape
  obtain ⟨n, hn⟩ : ∃ n, n = ls.length := ⟨_, rfl⟩
  obtain ⟨r, hr⟩ : ∃ r, r = okA ls := ⟨_, rfl⟩
  rw [← hr]
  have HB := Lib.hid (okA_bad ls)
  have HO := Lib.hid (okA_on ls)
  have HE := Lib.hid (show ∀ k, n ≤ k → okA (ls.drop k) = true from fun k hk => by rw [List.drop_eq_nil_of_le (by omega)]; rfl)
  have HR := Lib.hid hr
  have HL := Lib.hid (show ∀ k, k < n → ∃ s, ls[k]? = some s ∧ s.ok w ∧ s.zs.length < 1099511627776 from fun k hk => ⟨_, List.getElem?_eq_getElem (by omega), hv.2 _ (List.getElem_mem _), hls _ (List.getElem_mem _)⟩)
  have hv1 := hv.1
  rw [← hn] at hv1 hl ⊢
  have HV := Lib.hid (fun k s (h : ls[k]? = some s) => hv1.cellOf (n := n) hn.symm h)
  have HM := Lib.hid may_any
  clear hv hv1 hn hr hls
  go_enter Try.func66, Try.ntmps66
  go_wp2_with fail
  go_loop [7] (fun i => ∃ k : Nat, i = .int .i64 k ∧ k ≤ n ∧ okA (ls.drop k) = r) (fun i => n - (intOf i).toNat)
  case atStart => exact ⟨0, rfl, by omega, by rw [HR.out]; rfl⟩
  case round =>
    obtain ⟨k, rfl, hk, hc⟩ := hrel
    have HC := Lib.hid hc
    clear hc
    by_cases hlt : k < n
    · obtain ⟨s, hs, hso, hsl⟩ := HL.out k hlt
      obtain ⟨g, off, cap, hvv, hg, _, _, c1⟩ := HV.out k s hs
      cases hvv
      have hm := fun w h => HM.out s.v s.zs w h hsl
      have hb := HB.out k s hs
      have ho := HO.out k s hs
      cases hbb : Dm.okB s.zs
      · rw [hbb] at hm
        have HM2 := Lib.hid hm
        have HF : Hid (r = false) := Lib.hid (by rw [← HC.out]; exact hb hbb)
        have HSO := Lib.hid hso.1
        clear hm hb ho hbb hso hs
        generalize s.v = sv at *
        go_wp2_with fail
        refine (HM2.out _ HSO.out).mono ?_
        rintro e w1 ⟨rfl, rfl⟩
        go_wp2_with fail
        go_ret
        rw [HF.out]
        exact ⟨rfl, rfl⟩
      · rw [hbb] at hm
        have HM2 := Lib.hid hm
        have HN := Lib.hid ((ho hbb).symm.trans HC.out)
        have HSO := Lib.hid hso.1
        clear hm hb ho hbb hso hs
        generalize s.v = sv at *
        go_wp2_with fail
        refine (HM2.out _ HSO.out).mono ?_
        rintro e w1 ⟨rfl, rfl⟩
        go_wp2_with fail
        exact ⟨⟨k + 1, by go_num, by omega, HN.out⟩, by simp [intOf]; omega⟩
    · have HF : Hid (r = true) := Lib.hid (by rw [← HC.out]; exact HE.out k (by omega))
      go_wp2_with fail
      go_ret
      rw [HF.out]
      exact ⟨rfl, rfl⟩

/-- Two lists handed on as the rest of a variadic call. -/
theorem two_ll {w : World} {va vb : Value} {xs ys : List Int} (ha : Lst w va xs) (hb : Lst w vb ys) :
    ∃ s t : Sl, va = s.v ∧ vb = t.v ∧ s.zs = xs ∧ t.zs = ys ∧ LL (w.alloc (.cells #[va, vb] 22)) (.slice (some ⟨w.heap.size, 0, none⟩) 2 2) [s, t] := by
  obtain ⟨s, rfl, rfl, hs⟩ := ha.sl
  obtain ⟨t, rfl, rfl, ht⟩ := hb.sl
  refine ⟨s, t, rfl, rfl, rfl, rfl, GLst.made Sl.v 22 w [s, t] 2 rfl (by unfold maxLen; omega), ?_⟩
  intro u hu
  have hq : Q w (w.alloc (.cells #[s.v, t.v] 22)) := (Q.refl w).alloc _
  rcases List.mem_cons.1 hu with rfl | hu
  · exact hs.q hq
  · rcases List.mem_cons.1 hu with rfl | hu
    · exact ht.q hq
    · cases hu

theorem two_may {w : World} {va vb : Value} {xs ys : List Int} (ha : Lst w va xs) (hb : Lst w vb ys) (hl : xs.length < 1099511627776) (hl2 : ys.length < 1099511627776) :
    Calls Try.prog 66 #[.slice (some ⟨w.heap.size, 0, none⟩) 2 2] (w.alloc (.cells #[va, vb] 22)) fun e w' => e = .returned (.bool (Dm.okB xs && Dm.okB ys)) ∧ w.alloc (.cells #[va, vb] 22) = w' := by
  obtain ⟨s, t, rfl, rfl, rfl, rfl, hll⟩ := two_ll ha hb
  have h := mayAll_any _ _ _ hll (by show 2 < 1099511627776; omega) (by
    intro u hu
    rcases List.mem_cons.1 hu with rfl | hu
    · exact hl
    · rcases List.mem_cons.1 hu with rfl | hu
      · exact hl2
      · cases hu)
  have e : okA [s, t] = (Dm.okB s.zs && Dm.okB t.zs) := by simp [okA]
  rw [e] at h
  exact h

end Dw
end Go.Proofs.Ytebcgpoemppljaa
