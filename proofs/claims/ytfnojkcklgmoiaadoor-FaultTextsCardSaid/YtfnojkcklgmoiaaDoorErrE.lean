/- What the program's faults answer: outermost, Of, Wrap, Code, Path, Depth, Has, Cut. -/
import Derived.Test.YtfnojkcklgmoiaaDoorErrC
import Derived.Test.YtfnojkcklgmoiaaDoorErrD
import Derived.Test.YtfnojkcklgmoiaaDoorEls
set_option linter.unusedVariables false
set_option linter.unusedSimpArgs false
namespace Go.Proofs.YtfnojkcklgmoiaaDoor
open Go.RowKit
namespace Fe

theorem gap_q {lo hi : Nat} {A w w' : World} (hq : Q A w) (h : Gap lo hi w w') (hl : A.heap.size ≤ lo) : Q A w' :=
  ⟨h.os.trans hq.os, h.tape.trans hq.tape, h.output.trans hq.output, Nat.le_trans hq.le h.size, fun k hk => (h.block k (Nat.lt_of_lt_of_le hk hq.le) (.inl (Nat.lt_of_lt_of_le hk hl))).trans (hq.block hk)⟩

/-- The outermost fault of an error, as a pointer, or none. -/
def FP (w : World) (c : Int) : List ByteArray → Value → Prop
  | [], v => v = .pointer none
  | p :: ps, v => ∃ b u, v = .pointer (some ⟨b, 0, none⟩) ∧ w.heap[b]? = some (.cells #[.string p, u] 51 (0, 0)) ∧ rank u ≤ b ∧ EV w c ps u
theorem FP.q {w w' : World} {c : Int} (hq : Q w w') : ∀ {ps : List ByteArray} {v : Value}, FP w c ps v → FP w' c ps v
  | [], _, h => h
  | _ :: _, _, ⟨b, u, hv, hb, hr, h⟩ => ⟨b, u, hv, by rw [hq.block (Array.getElem?_eq_some_iff.1 hb).1]; exact hb, hr, h.q hq⟩
def prank : Value → Nat
  | .pointer (some a) => a.block + 1
  | _ => 0

set_option maxHeartbeats 2000000 in
set_option maxRecDepth 100000 in
theorem out_nil (w : World) : Calls Tryd.prog 29 #[.nilIface] w fun e w' => e = .returned (.pointer none) ∧ Q w w' := by
  have HE := Lib.hid ((Q.refl w).alloc (.cells #[.pointer none] 47))
  go_enter Tryd.func29, Tryd.ntmps29
  go_wp2_with (go_at_call 25; refine (As_nil _ _).mono ?_; rintro e w' ⟨rfl, rfl⟩)
  go_ret
  exact ⟨rfl, HE.out⟩
def fp : Value → Value
  | .iface _ (.pointer a) => .pointer a
  | _ => .pointer none
theorem fp_fault (t : TypeId) (a : Option Addr) : fp (.iface t (.pointer a)) = .pointer a := rfl
theorem fp_code (t : TypeId) (k : IntKind) (n : Int) : fp (.iface t (.int k n)) = .pointer none := rfl
theorem EV.fp {w : World} {c : Int} {ps : List ByteArray} {v : Value} (h : EV w c ps v) : FP w c ps (fp v) ∧ prank (fp v) = rank v := by
  cases ps with
  | nil => obtain rfl : v = _ := h; exact ⟨rfl, rfl⟩
  | cons p ps => obtain ⟨b, u, rfl, hb, hr, hu⟩ := h; exact ⟨⟨b, u, rfl, hb, hr, hu⟩, rfl⟩
set_option maxHeartbeats 2000000 in
set_option maxRecDepth 100000 in
theorem out_any (c : Int) (ps : List ByteArray) (v : Value) (w : World) (hg : Handle w) (h : EV w c ps v) :
    Calls Tryd.prog 29 #[v] w fun e w' => e = .returned (fp v) ∧ Q w w' := by
  have hq : Q w (w.alloc (.cells #[.pointer none] 47)) := (Q.refl w).alloc _
  have hg1 := hg.q hq
  have ht : (w.alloc (.cells #[.pointer none] 47)).cell? ⟨w.heap.size, 0, none⟩ = some (.pointer none) := by simp
  have hf : (w.alloc (.cells #[.pointer none] 47)).frozen? ⟨w.heap.size, 0, none⟩ = false := by simp
  have HQ := Lib.hid hq
  cases ps with
  | nil =>
    obtain rfl : v = _ := h
    clear hq
    go_enter Tryd.func29, Tryd.ntmps29
    go_wp2_with (go_at_call 25; refine (As_none c _ _ _ hg1 ht hf).mono ?_; rintro e w1 ⟨rfl, hq1⟩; have ht1 := (World.cell?_of_block (w := w.alloc (.cells #[.pointer none] 47)) (a := ⟨w.heap.size, 0, none⟩) (hq1.block (by simp))).trans ht)
    go_ret
    exact ⟨rfl, HQ.out.trans hq1⟩
  | cons p ps =>
    obtain ⟨b, u, rfl, hb, hr, hu⟩ := h
    clear hq hb hu
    go_enter Tryd.func29, Tryd.ntmps29
    go_wp2_with (go_at_call 25; refine (As_fault _ _ _ _ hg1 ht hf).mono ?_; rintro e w1 ⟨rfl, hq1, ht1⟩)
    go_wp2
    go_ret
    exact ⟨rfl, gap_q HQ.out hq1 (Nat.le_refl _)⟩

set_option maxHeartbeats 2000000 in
set_option maxRecDepth 100000 in
theorem code_nil (w : World) : Calls Tryd.prog 11 #[.nilIface] w fun e w' => e = .returned (.int .i64 0) ∧ Q w w' := by
  have HE := Lib.hid ((Q.refl w).alloc (.cells #[.int .i64 0] 27))
  go_enter Tryd.func11, Tryd.ntmps11
  go_wp2_with (go_at_call 25; refine (As_nil _ _).mono ?_; rintro e w' ⟨rfl, rfl⟩)
  go_ret
  exact ⟨rfl, HE.out⟩
set_option maxHeartbeats 2000000 in
set_option maxRecDepth 100000 in
theorem code_any (c : Int) (ps : List ByteArray) (v : Value) (w : World) (hg : Handle w) (h : EV w c ps v) :
    Calls Tryd.prog 11 #[v] w fun e w' => e = .returned (.int .i64 c) ∧ Q w w' := by
  have hq : Q w (w.alloc (.cells #[.int .i64 0] 27)) := (Q.refl w).alloc _
  have hg1 := hg.q hq
  have h1 := h.q hq
  have ht : (w.alloc (.cells #[.int .i64 0] 27)).cell? ⟨w.heap.size, 0, none⟩ = some (.int .i64 0) := by simp
  have hf : (w.alloc (.cells #[.int .i64 0] 27)).frozen? ⟨w.heap.size, 0, none⟩ = false := by simp
  have HQ := Lib.hid hq
  clear hq h
  go_enter Tryd.func11, Tryd.ntmps11
  go_wp2_with (go_at_call 25; refine (As_code c ps v _ _ _ hg1 h1 ht hf).mono ?_; rintro e w1 ⟨rfl, hq1, ht1⟩)
  go_wp2
  go_ret
  exact ⟨rfl, gap_q HQ.out hq1 (Nat.le_refl _)⟩

set_option maxHeartbeats 400000 in
theorem of_zero (w : World) : Calls Tryd.prog 22 #[.int .i64 0] w fun e w' => e = .returned .nilIface ∧ w' = w := by
  go_enter Tryd.func22, Tryd.ntmps22
  go_wp2
  go_ret
  exact ⟨rfl, rfl⟩
set_option maxHeartbeats 400000 in
theorem of_any (c : Int) (w : World) (hc : c ≠ 0) : Calls Tryd.prog 22 #[.int .i64 c] w fun e w' => (∃ v, e = .returned v ∧ EV w c [] v) ∧ w' = w := by
  go_enter Tryd.func22, Tryd.ntmps22
  go_wp2
  go_ret
  exact ⟨⟨_, rfl, rfl⟩, rfl⟩
set_option maxHeartbeats 400000 in
theorem wrap_nil (s : ByteArray) (w : World) : Calls Tryd.prog 21 #[.string s, .nilIface] w fun e w' => e = .returned .nilIface ∧ w' = w := by
  go_enter Tryd.func21, Tryd.ntmps21
  go_wp2
  go_ret
  exact ⟨rfl, rfl⟩
set_option maxHeartbeats 400000 in
theorem wrap_any (s : ByteArray) (c : Int) (ps : List ByteArray) (v : Value) (w : World) (h : EV w c ps v) :
    Calls Tryd.prog 21 #[.string s, v] w fun e w' => (∃ x, e = .returned x ∧ EV w' c (s :: ps) x) ∧ Q w w' := by
  have hq : Q w (w.alloc (.cells #[.string s, v] 51)) := (Q.refl w).alloc _
  have hE : EV (w.alloc (.cells #[.string s, v] 51)) c (s :: ps) (.iface 47 (.pointer (some ⟨w.heap.size, 0, none⟩))) :=
    ⟨w.heap.size, v, rfl, heap_alloc_new w _, h.rank_lt, h.q hq⟩
  obtain ⟨tv, vv, rfl⟩ := h.iface
  have HQ := Lib.hid hq
  have HE := Lib.hid hE
  clear hq hE h
  go_enter Tryd.func21, Tryd.ntmps21
  go_wp2
  go_ret
  exact ⟨⟨_, rfl, HE.out⟩, HQ.out⟩

set_option maxHeartbeats 2000000 in
set_option maxRecDepth 100000 in
theorem path_nil (w : World) : Calls Tryd.prog 13 #[.nilIface] w fun e w' => e = .returned (.slice none 0 0) ∧ Q w w' := by
  go_enter Tryd.func13, Tryd.ntmps13
  go_wp2_with (go_at_call 29; refine (out_nil _).mono ?_; rintro e w1 ⟨rfl, hq1⟩)
  refine wp_loop_rounds 1 ?_
  rw [rounds_succ]
  go_wp2
  go_ret
  exact ⟨rfl, hq1⟩

theorem drop_one {α : Type} {ps qs : List α} {p : α} {k : Nat} (h : p :: qs = ps.drop k) : k < ps.length ∧ ps.drop (k + 1) = qs ∧ ps.take (k + 1) = ps.take k ++ [p] := by
  have hkl : k < ps.length := by have := congrArg List.length h; simp at this; omega
  refine ⟨hkl, by rw [← List.drop_drop, ← h]; rfl, ?_⟩
  rw [List.take_succ_eq_append_getElem hkl]
  have : ps[k]? = some p := by rw [← List.head?_drop, ← h]; rfl
  rw [(List.getElem?_eq_some_iff.1 this).2]
theorem drop_none {α : Type} {ps : List α} {k : Nat} (h : [] = ps.drop k) : ps.length ≤ k ∧ ps.take k = ps := by
  have : ps.length ≤ k := by have := congrArg List.length h; simp at this; omega
  exact ⟨this, List.take_of_length_le this⟩

set_option maxHeartbeats 2000000 in
set_option maxRecDepth 100000 in
theorem path_any (c : Int) (ps : List ByteArray) (v : Value) (w : World) (hg : Handle w) (h : EV w c ps v) (hl : ps.length ≤ 1073741824) :
    Calls Tryd.prog 13 #[v] w fun e w' => (∃ x, e = .returned x ∧ SOwn w' w.heap.size x ps) ∧ Q w w' := by
  have hfp := h.fp.1
  go_enter Tryd.func13, Tryd.ntmps13
  go_wp2_with (go_at_call 29; refine (out_any c ps v _ hg h).mono ?_; rintro e w1 ⟨rfl, hq1⟩)
  go_loopw [3, 4] (fun x f wr => (∃ k, k ≤ ps.length ∧ SOwn wr w.heap.size x (ps.take k) ∧ FP w c (ps.drop k) f) ∧ Q w wr) (fun _ f _ => prank f)
  case atStart => exact ⟨⟨0, Nat.zero_le _, GOwn.nil _ _ _ _, hfp⟩, hq1⟩
  case round =>
    obtain ⟨⟨k, hk, hx, hf⟩, hq⟩ := hrel
    have hqs := hq.le
    clear hfp
    obtain ⟨r, hr⟩ : ∃ r, r = ps.drop k := ⟨_, rfl⟩
    rw [← hr] at hf
    cases r with
    | nil =>
      obtain rfl : _ = _ := hf
      rw [(drop_none hr).2] at hx
      clear hr
      go_wp2
      go_ret
      exact ⟨⟨_, rfl, hx⟩, hq⟩
    | cons p qs =>
      have hfq := hf.q hq
      obtain ⟨b, u, rfl, hb, hrk, hu⟩ := hf
      obtain ⟨hkl, hnx, htk⟩ := drop_one hr
      have c0 : wr.cell? ⟨b, 0, none⟩ = some (.string p) := by
        rw [Lib.cell_of_heap (show wr.heap[b]? = _ from (hq.block (Array.getElem?_eq_some_iff.1 hb).1).trans hb)]; rfl
      have hlen : (ps.take k).length < 1099511627776 := by simp; omega
      have HN := Lib.hid hnx
      have HT := Lib.hid htk
      have HR := Lib.hid hr
      have HB := Lib.hid hb
      have HU := Lib.hid hu
      clear hr hnx htk hfq h hb hu
      go_wp2_with (at_builtin; refine gpush elemS (en := Value.string) hx rfl _ _ rfl p rfl rfl rfl hlen hqs ?_)
      intro x' w2 hx' hgrow _
      have hq2 : Q w w2 := hq.grown hgrow (fun j e => (hx.lt j e).1)
      have c1 : w2.cell? ⟨b, 1, none⟩ = some u := by
        rw [Lib.cell_of_heap (show w2.heap[b]? = _ from (hq2.block (Array.getElem?_eq_some_iff.1 HB.out).1).trans HB.out)]; rfl
      have hg2 := hg.q hq2
      have hu2 := HU.out.q hq2
      clear hx hq hgrow c0
      go_wp2_with (go_at_call 29; refine (out_any c qs u _ hg2 hu2).mono ?_; rintro e w3 ⟨rfl, hq3⟩)
      refine ⟨⟨⟨k + 1, hkl, ?_, ?_⟩, hq2.trans hq3⟩, ?_⟩
      · rw [HT.out]; exact hx'.q hq3
      · rw [HN.out]; exact HU.out.fp.1
      · rw [HU.out.fp.2]; exact Nat.lt_succ_of_le hrk

set_option maxHeartbeats 2000000 in
set_option maxRecDepth 100000 in
theorem depth_nil (w : World) : Calls Tryd.prog 14 #[.nilIface] w fun e w' => e = .returned (.int .i64 0) ∧ Q w w' := by
  go_enter Tryd.func14, Tryd.ntmps14
  go_wp2_with (go_at_call 13; refine (path_nil _).mono ?_; rintro e w1 ⟨rfl, hq1⟩)
  go_ret
  exact ⟨rfl, hq1⟩
set_option maxHeartbeats 2000000 in
set_option maxRecDepth 100000 in
theorem depth_any (c : Int) (ps : List ByteArray) (v : Value) (w : World) (hg : Handle w) (h : EV w c ps v) (hl : ps.length ≤ 1073741824) :
    Calls Tryd.prog 14 #[v] w fun e w' => e = .returned (.int .i64 ps.length) ∧ Q w w' := by
  go_enter Tryd.func14, Tryd.ntmps14
  go_wp2_with (go_at_call 13; refine (path_any c ps v _ hg h hl).mono ?_; rintro e w1 ⟨⟨x, rfl, hx⟩, hq1⟩; obtain ⟨xa, xc, rfl⟩ := hx.shape)
  go_ret
  exact ⟨rfl, hq1⟩

set_option maxHeartbeats 2000000 in
set_option maxRecDepth 100000 in
theorem has_nil (n : Int) (w : World) : Calls Tryd.prog 16 #[.nilIface, .int .i64 n] w fun e w' => e = .returned (.bool (n == 0)) ∧ w' = w := by
  by_cases hn : n = 0
  · subst hn
    go_enter Tryd.func16, Tryd.ntmps16
    go_wp2
    go_ret
    exact ⟨rfl, rfl⟩
  · have hb : (n == 0) = false := beq_eq_false_iff_ne.2 hn
    rw [hb]
    go_enter Tryd.func16, Tryd.ntmps16
    go_wp2
    go_ret
    exact ⟨rfl, rfl⟩
set_option maxHeartbeats 2000000 in
set_option maxRecDepth 100000 in
theorem has_any (c n : Int) (ps : List ByteArray) (v : Value) (w : World) (h : EV w c ps v) :
    Calls Tryd.prog 16 #[v, .int .i64 n] w fun e w' => e = .returned (.bool (c == n)) ∧ w' = w := by
  obtain ⟨tv, vv, rfl⟩ := h.iface
  generalize hcn : (c == n) = r
  have HI := Lib.hid (fun w' (h' : EV w' c ps (.iface tv vv)) => hcn ▸ Is_code c n ps _ w' h')
  clear hcn
  go_enter Tryd.func16, Tryd.ntmps16
  go_wp2_with (go_at_call 23; refine (HI.out _ h).mono ?_; rintro e w1 ⟨rfl, rfl⟩)
  go_ret
  exact ⟨rfl, rfl⟩

set_option maxHeartbeats 2000000 in
set_option maxRecDepth 100000 in
theorem cut_nil (n : Int) (w : World) : Calls Tryd.prog 20 #[.nilIface, .int .i64 n] w fun e w' => e = .returned .nilIface ∧ Q w w' := by
  go_enter Tryd.func20, Tryd.ntmps20
  go_wp2_with (go_at_call 29; refine (out_nil _).mono ?_; rintro e w1 ⟨rfl, hq1⟩)
  refine wp_loop_rounds 1 ?_
  rw [rounds_succ]
  go_wp2
  go_ret
  exact ⟨rfl, hq1⟩
set_option maxHeartbeats 2000000 in
set_option maxRecDepth 100000 in
theorem cut_any (c : Int) (ps : List ByteArray) (v : Value) (n : Int) (w : World) (hg : Handle w) (h : EV w c ps v) (h0 : -9223372036854775808 ≤ n) (h1 : n ≤ 9223372036854775807) :
    Calls Tryd.prog 20 #[v, .int .i64 n] w fun e w' => (∃ x, e = .returned x ∧ EV w c (ps.drop n.toNat) x) ∧ Q w w' := by
  have hfp := h.fp
  go_enter Tryd.func20, Tryd.ntmps20
  go_wp2_with (go_at_call 29; refine (out_any c ps v _ hg h).mono ?_; rintro e w1 ⟨rfl, hq1⟩)
  go_loopw [0, 1, 5] (fun e m f wr => (∃ (k : Nat) (z : Int), k ≤ n.toNat ∧ m = .int .i64 z ∧ z = n - k ∧ EV w c (ps.drop k) e ∧ f = fp e) ∧ Q w wr) (fun _ _ f _ => prank f)
  case atStart => exact ⟨⟨0, n, Nat.zero_le _, rfl, by omega, h, rfl⟩, hq1⟩
  case round =>
    obtain ⟨⟨k, z, hk, rfl, hz, he, rfl⟩, hq⟩ := hrel
    clear hfp hq1 h
    obtain ⟨r, hr⟩ : ∃ r, r = ps.drop k := ⟨_, rfl⟩
    rw [← hr] at he
    have HZ := Lib.hid hz
    cases r with
    | nil =>
      have hd : ps.drop n.toNat = [] := List.drop_of_length_le (Nat.le_trans (drop_none hr).1 hk)
      have HD := Lib.hid hd
      obtain rfl : _ = _ := he
      clear hr hd hz
      simp only [fp_fault, fp_code]
      go_wp2
      go_ret
      exact ⟨⟨_, rfl, by rw [HD.out]; rfl⟩, hq⟩
    | cons p qs =>
      by_cases hz0 : 0 < z
      · obtain ⟨b, u, rfl, hb, hrk, hu⟩ := he
        obtain ⟨hkl, hnx, _⟩ := drop_one hr
        have c1 : wr.cell? ⟨b, 1, none⟩ = some u := by
          rw [Lib.cell_of_heap (show wr.heap[b]? = _ from (hq.block (Array.getElem?_eq_some_iff.1 hb).1).trans hb)]; rfl
        have hg2 := hg.q hq
        have hu2 := hu.q hq
        have hzl : z ≤ 9223372036854775807 := by omega
        have HN := Lib.hid hnx
        have HU := Lib.hid hu
        have HK := Lib.hid (show k + 1 ≤ n.toNat by omega)
        clear hr hnx hb hu hz hk
        simp only [fp_fault, fp_code]
        go_wp2_with (go_at_call 29; refine (out_any c qs u _ hg2 hu2).mono ?_; rintro e w3 ⟨rfl, hq3⟩)
        refine ⟨⟨⟨k + 1, z - 1, HK.out, rfl, by have := HZ.out; omega, ?_, rfl⟩, hq.trans hq3⟩, ?_⟩
        · rw [HN.out]; exact HU.out
        · rw [HU.out.fp.2]; exact Nat.lt_succ_of_le hrk
      · have hkn : k = n.toNat := by omega
        have HE := Lib.hid (show EV w c (ps.drop n.toNat) _ by rw [← hkn, ← hr]; exact he)
        obtain ⟨b, u, rfl, hb, hrk, hu⟩ := he
        clear hr hz hk hkn hb hu
        simp only [fp_fault, fp_code]
        go_wp2
        go_ret
        exact ⟨⟨_, rfl, HE.out⟩, hq⟩

end Fe
end Go.Proofs.YtfnojkcklgmoiaaDoor
