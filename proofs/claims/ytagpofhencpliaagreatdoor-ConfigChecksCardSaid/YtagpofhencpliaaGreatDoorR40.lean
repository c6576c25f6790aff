/- What the program's faults answer: outermost, Of, Wrap, Code, Path, Depth, Has, Cut. (and more) -/
import Derived.Test.YtagpofhencpliaaGreatDoorR00
import Derived.Test.YtagpofhencpliaaGreatDoorR02
import Derived.Test.YtagpofhencpliaaGreatDoorR01
import Derived.Test.YtagpofhencpliaaGreatDoorR18
import Derived.StillTailTactics
import Derived.Lib.IfaceEq
set_option linter.unusedVariables false
set_option linter.unusedSimpArgs false
namespace Go.Proofs.YtagpofhencpliaaGreatDoor
open Go.RowKit
namespace Fe
theorem gap_q {lo hi : Nat} {A w w' : World} (hq : Q A w) (h : Gap lo hi w w') (hl : A.heap.size ≤ lo) : Q A w' :=
  ⟨h.os.trans hq.os, h.tape.trans hq.tape, h.output.trans hq.output, Nat.le_trans hq.le h.size, fun k hk => (h.block k (Nat.lt_of_lt_of_le hk hq.le) (.inl (Nat.lt_of_lt_of_le hk hl))).trans (hq.block hk)⟩
def FP (w : World) (c : Int) : List ByteArray → Value → Prop
  | [], v => v = .pointer none
  | p :: ps, v => ∃ b u, v = .pointer (some ⟨b, 0, none⟩) ∧ w.heap[b]? = some (.cells #[.string p, u] 86 (0, 0)) ∧ rank u ≤ b ∧ EV w c ps u
theorem FP.q {w w' : World} {c : Int} (hq : Q w w') : ∀ {ps : List ByteArray} {v : Value}, FP w c ps v → FP w' c ps v
  | [], _, h => h
  | _ :: _, _, ⟨b, u, hv, hb, hr, h⟩ => ⟨b, u, hv, by rw [hq.block (Array.getElem?_eq_some_iff.1 hb).1]; exact hb, hr, h.q hq⟩
def prank : Value → Nat
  | .pointer (some a) => a.block + 1
  | _ => 0
def fp : Value → Value
  | .iface _ (.pointer a) => .pointer a
  | _ => .pointer none
theorem EV.fp {w : World} {c : Int} {ps : List ByteArray} {v : Value} (h : EV w c ps v) : FP w c ps (fp v) ∧ prank (fp v) = rank v := by
  cases ps with
  | nil => obtain rfl : v = _ := h; exact ⟨rfl, rfl⟩
  | cons p ps => obtain ⟨b, u, rfl, hb, hr, hu⟩ := h; exact ⟨⟨b, u, rfl, hb, hr, hu⟩, rfl⟩
set_option maxHeartbeats 2000000 in
set_option maxRecDepth 100000 in
theorem out_any (c : Int) (ps : List ByteArray) (v : Value) (w : World) (hg : Handle w) (h : EV w c ps v) :
    Calls Tryz.prog 34 #[v] w fun e w' => e = .returned (fp v) ∧ Q w w' := by
  have hq : Q w (w.alloc (.cells #[.pointer none] 83)) := (Q.refl w).alloc _
  have hg1 := hg.q hq
  have ht : (w.alloc (.cells #[.pointer none] 83)).cell? ⟨w.heap.size, 0, none⟩ = some (.pointer none) := by simp
  have hf : (w.alloc (.cells #[.pointer none] 83)).frozen? ⟨w.heap.size, 0, none⟩ = false := by simp
  have HQ := Lib.hid hq
  cases ps with
  | nil =>
    obtain rfl : v = _ := h
    clear hq
    go_enter Tryz.func34, Tryz.ntmps34
    go_wp2_with (go_at_call 31; refine (As_none c _ _ _ hg1 ht hf).mono ?_; rintro e w1 ⟨rfl, hq1⟩; have ht1 := (World.cell?_of_block (w := w.alloc (.cells #[.pointer none] 83)) (a := ⟨w.heap.size, 0, none⟩) (hq1.block (by simp))).trans ht)
    go_ret
    exact ⟨rfl, HQ.out.trans hq1⟩
  | cons p ps =>
    obtain ⟨b, u, rfl, hb, hr, hu⟩ := h
    clear hq hb hu
    go_enter Tryz.func34, Tryz.ntmps34
    go_wp2_with (go_at_call 31; refine (As_fault _ _ _ _ hg1 ht hf).mono ?_; rintro e w1 ⟨rfl, hq1, ht1⟩)
    go_wp2
    go_ret
    exact ⟨rfl, gap_q HQ.out hq1 (Nat.le_refl _)⟩
set_option maxHeartbeats 2000000 in
set_option maxRecDepth 100000 in
theorem code_nil (w : World) : Calls Tryz.prog 11 #[.nilIface] w fun e w' => e = .returned (.int .i64 0) ∧ Q w w' := by
  have HE := Lib.hid ((Q.refl w).alloc (.cells #[.int .i64 0] 49))
  go_enter Tryz.func11, Tryz.ntmps11
  go_wp2_with (go_at_call 31; refine (As_nil _ _).mono ?_; rintro e w' ⟨rfl, rfl⟩)
  go_ret
  exact ⟨rfl, HE.out⟩
set_option maxHeartbeats 2000000 in
set_option maxRecDepth 100000 in
theorem code_any (c : Int) (ps : List ByteArray) (v : Value) (w : World) (hg : Handle w) (h : EV w c ps v) :
    Calls Tryz.prog 11 #[v] w fun e w' => e = .returned (.int .i64 c) ∧ Q w w' := by
  have hq : Q w (w.alloc (.cells #[.int .i64 0] 49)) := (Q.refl w).alloc _
  have hg1 := hg.q hq
  have h1 := h.q hq
  have ht : (w.alloc (.cells #[.int .i64 0] 49)).cell? ⟨w.heap.size, 0, none⟩ = some (.int .i64 0) := by simp
  have hf : (w.alloc (.cells #[.int .i64 0] 49)).frozen? ⟨w.heap.size, 0, none⟩ = false := by simp
  have HQ := Lib.hid hq
  clear hq h
  go_enter Tryz.func11, Tryz.ntmps11
  go_wp2_with (go_at_call 31; refine (As_code c ps v _ _ _ hg1 h1 ht hf).mono ?_; rintro e w1 ⟨rfl, hq1, ht1⟩)
  go_wp2
  go_ret
  exact ⟨rfl, gap_q HQ.out hq1 (Nat.le_refl _)⟩
set_option maxHeartbeats 400000 in
theorem of_any (c : Int) (w : World) (hc : c ≠ 0) : Calls Tryz.prog 26 #[.int .i64 c] w fun e w' => (∃ v, e = .returned v ∧ EV w c [] v) ∧ w' = w := by
  go_enter Tryz.func26, Tryz.ntmps26
  go_wp2
  go_ret
  exact ⟨⟨_, rfl, rfl⟩, rfl⟩
set_option maxHeartbeats 400000 in
theorem wrap_any (s : ByteArray) (c : Int) (ps : List ByteArray) (v : Value) (w : World) (h : EV w c ps v) :
    Calls Tryz.prog 25 #[.string s, v] w fun e w' => (∃ x, e = .returned x ∧ EV w' c (s :: ps) x) ∧ Q w w' := by
  have hq : Q w (w.alloc (.cells #[.string s, v] 86)) := (Q.refl w).alloc _
  have hE : EV (w.alloc (.cells #[.string s, v] 86)) c (s :: ps) (.iface 83 (.pointer (some ⟨w.heap.size, 0, none⟩))) :=
    ⟨w.heap.size, v, rfl, heap_alloc_new w _, h.rank_lt, h.q hq⟩
  obtain ⟨tv, vv, rfl⟩ := h.iface
  have HQ := Lib.hid hq
  have HE := Lib.hid hE
  clear hq hE h
  go_enter Tryz.func25, Tryz.ntmps25
  go_wp2
  go_ret
  exact ⟨⟨_, rfl, HE.out⟩, HQ.out⟩
theorem drop_one {α : Type} {ps qs : List α} {p : α} {k : Nat} (h : p :: qs = ps.drop k) : k < ps.length ∧ ps.drop (k + 1) = qs ∧ ps.take (k + 1) = ps.take k ++ [p] := by
  have hkl : k < ps.length := by have := congrArg List.length h; simp at this; omega
  refine ⟨hkl, by rw [← List.drop_drop, ← h]; rfl, ?_⟩
  rw [List.take_succ_eq_append_getElem hkl]
  have : ps[k]? = some p := by rw [← List.head?_drop, ← h]; rfl
  rw [(List.getElem?_eq_some_iff.1 this).2]
theorem drop_none {α : Type} {ps : List α} {k : Nat} (h : [] = ps.drop k) : ps.length ≤ k ∧ ps.take k = ps := by
  have : ps.length ≤ k := by have := congrArg List.length h; simp at this; omega
  exact ⟨this, List.take_of_length_le this⟩
set_option maxHeartbeats 2000000 in
set_option maxRecDepth 100000 in
theorem path_any (c : Int) (ps : List ByteArray) (v : Value) (w : World) (hg : Handle w) (h : EV w c ps v) (hl : ps.length ≤ 1073741824) :
    Calls Tryz.prog 14 #[v] w fun e w' => (∃ x, e = .returned x ∧ SOwn w' w.heap.size x ps) ∧ Q w w' := by
  have hfp := h.fp.1
  go_enter Tryz.func14, Tryz.ntmps14
  go_wp2_with (go_at_call 34; refine (out_any c ps v _ hg h).mono ?_; rintro e w1 ⟨rfl, hq1⟩)
  go_loopw [3, 4] (fun x f wr => (∃ k, k ≤ ps.length ∧ SOwn wr w.heap.size x (ps.take k) ∧ FP w c (ps.drop k) f) ∧ Q w wr) (fun _ f _ => prank f)
  case atStart => exact ⟨⟨0, Nat.zero_le _, GOwn.nil _ _ _ _, hfp⟩, hq1⟩
  case round =>
    obtain ⟨⟨k, hk, hx, hf⟩, hq⟩ := hrel
    have hqs := hq.le
    clear hfp
    obtain ⟨r, hr⟩ : ∃ r, r = ps.drop k := ⟨_, rfl⟩
    rw [← hr] at hf
    cases r with
    | nil =>
      obtain rfl : _ = _ := hf
      rw [(drop_none hr).2] at hx
      clear hr
      go_wp2
      go_ret
      exact ⟨⟨_, rfl, hx⟩, hq⟩
    | cons p qs =>
      have hfq := hf.q hq
      obtain ⟨b, u, rfl, hb, hrk, hu⟩ := hf
      obtain ⟨hkl, hnx, htk⟩ := drop_one hr
      have c0 : wr.cell? ⟨b, 0, none⟩ = some (.string p) := by
        rw [Lib.cell_of_heap (show wr.heap[b]? = _ from (hq.block (Array.getElem?_eq_some_iff.1 hb).1).trans hb)]; rfl
      have hlen : (ps.take k).length < 1099511627776 := by simp; omega
      have HN := Lib.hid hnx
      have HT := Lib.hid htk
      have HR := Lib.hid hr
      have HB := Lib.hid hb
      have HU := Lib.hid hu
      clear hr hnx htk hfq h hb hu
      go_wp2_with (at_builtin; refine gpush elemS (en := Value.string) hx rfl _ _ rfl p rfl rfl rfl hlen hqs ?_)
      intro x' w2 hx' hgrow _
      have hq2 : Q w w2 := hq.grown hgrow (fun j e => (hx.lt j e).1)
      have c1 : w2.cell? ⟨b, 1, none⟩ = some u := by
        rw [Lib.cell_of_heap (show w2.heap[b]? = _ from (hq2.block (Array.getElem?_eq_some_iff.1 HB.out).1).trans HB.out)]; rfl
      have hg2 := hg.q hq2
      have hu2 := HU.out.q hq2
      clear hx hq hgrow c0
      go_wp2_with (go_at_call 34; refine (out_any c qs u _ hg2 hu2).mono ?_; rintro e w3 ⟨rfl, hq3⟩)
      refine ⟨⟨⟨k + 1, hkl, ?_, ?_⟩, hq2.trans hq3⟩, ?_⟩
      · rw [HT.out]; exact hx'.q hq3
      · rw [HN.out]; exact HU.out.fp.1
      · rw [HU.out.fp.2]; exact Nat.lt_succ_of_le hrk
end Fe
end Go.Proofs.YtagpofhencpliaaGreatDoor
