/- The document's own config: values refused, and numbers some steps farther. (and more) -/
import Derived.Test.YteljedefbomlgaaR00
import Derived.Test.YteljedefbomlgaaR02
import Derived.Test.YteljedefbomlgaaR27
import Derived.Test.YteljedefbomlgaaR26
import Derived.Test.YteljedefbomlgaaR37
import Derived.Test.YteljedefbomlgaaR14
import Derived.Test.YteljedefbomlgaaR25
import Derived.Test.YteljedefbomlgaaR12
import Derived.Test.YteljedefbomlgaaR23
import Derived.Test.YteljedefbomlgaaR17
import Derived.Test.YteljedefbomlgaaR16
import Derived.Test.YteljedefbomlgaaR01
import Derived.Test.YteljedefbomlgaaR08
import Derived.Test.YteljedefbomlgaaR10
import Derived.Test.YteljedefbomlgaaR06
import Derived.Test.YteljedefbomlgaaR03
import Derived.Test.YteljedefbomlgaaR05
import Derived.Test.YteljedefbomlgaaR18
import Derived.Test.YteljedefbomlgaaR36
import Derived.Test.YteljedefbomlgaaR28
import Derived.Test.YteljedefbomlgaaRows
import Derived.Deep.Cut
set_option linter.unusedVariables false
set_option linter.unusedSimpArgs false
namespace Go.Proofs.Yteljedefbomlgaa
open Go.RowKit
namespace Kr
open Er (dv LF LF.of LF.nil LF.mono LF.q LF.put LF.shape LF.lst)
set_option maxRecDepth 100000 in
set_option maxHeartbeats 4000000 in
theorem value_bad (g1 g2 g3 sg g : Bool) (v1 v2 v3 v : Value) (s1 s2 s3 s i0 i1 i2 i3 i4 i5 i6 : Int) (L : List Int) (w : World) (hv : Lst w v L) (hl : L.length < 1900) (hs : -9223372036854775808 ≤ s ∧ s ≤ 9223372036854775807) (hb : (Dm.okB L && decide (0 ≤ s) && decide (s ≤ 1000)) = false) :
    Calls Try.prog 16 #[rul g1 g2 g3 sg v1 v2 v3 s1 s2 s3 i0 i1 i2 i3 i4 i5 i6, dv g v s] w fun e w' => e = .returned (.tuple #[dv false (.slice none 0 0) 0, .int .i64 1]) ∧ Q w w' := by
  have HT := Lib.hid (fun u (q : Q w u) => Rr.to_bad g v s i2 i5 L u (hv.q q) (by omega) hs (.inl hb))
  obtain ⟨a, c, rfl⟩ := hv.shape
  clear hl hb hs hv
  generalize L.length = lL at *
  unfold dv at HT ⊢
  obtain ⟨y1, hy1⟩ : ∃ y, y = w.alloc (.cells #[.bool g1, v1, .int .i64 s1, .bool g2, v2, .int .i64 s2, .bool g3, v3, .int .i64 s3, .bool sg, .int .i64 i0, .int .i64 i1, .int .i64 i2, .int .i64 i3, .int .i64 i4, .int .i64 i5, .int .i64 i6] 44) := ⟨_, rfl⟩
  have hQ1 : Q w y1 := by rw [hy1]; exact (Q.refl w).alloc _
  have hb1 : Bk y1 w.heap.size 44 [.bool g1, v1, .int .i64 s1, .bool g2, v2, .int .i64 s2, .bool g3, v3, .int .i64 s3, .bool sg, .int .i64 i0, .int .i64 i1, .int .i64 i2, .int .i64 i3, .int .i64 i4, .int .i64 i5, .int .i64 i6] := by rw [hy1]; exact Bk.new _ _ _
  have hs1 : y1.heap.size = w.heap.size + 1 := by rw [hy1]; simp
  obtain ⟨y2, hy2⟩ : ∃ y, y = y1.alloc (.cells #[.bool g, .slice a lL c, .int .i64 s] 24) := ⟨_, rfl⟩
  have hq2 : Q y1 y2 := by rw [hy2]; exact (Q.refl y1).alloc _
  have hb2 : Bk y2 (w.heap.size + 1) 24 [.bool g, .slice a lL c, .int .i64 s] := by rw [hy2, ← hs1]; exact Bk.new _ _ _
  have hs2 : y2.heap.size = w.heap.size + 1 + 1 := by rw [hy2]; simp; omega
  obtain ⟨z, hz⟩ : ∃ y, y = y2.alloc (.cells #[.bool false, .slice none 0 0, .int .i64 0] 24) := ⟨_, rfl⟩
  have hq3 : Q y2 z := by rw [hz]; exact (Q.refl y2).alloc _
  have hb3 : Bk z (w.heap.size + 1 + 1) 24 [.bool false, .slice none 0 0, .int .i64 0] := by rw [hz, ← hs2]; exact Bk.new _ _ _
  have HQZ := Lib.hid (show Q w z from hQ1.trans (hq2.trans hq3))
  have HR := Lib.hid (hb1.q (hq2.trans hq3))
  have hd := hb2.q hq3
  have HO := Lib.hid hb3
  have HDX := Lib.hid hd
  have d0 := hd.cell 0 rfl
  have d1 := hd.cell 1 rfl
  have d2 := hd.cell 2 rfl
  have r12 := HR.out.cell 12 rfl
  have r15 := HR.out.cell 15 rfl
  go_enter Try.func16, Try.ntmps16
  go_upto_region 1 with fail
  first | rw [← hy1, ← hy2, ← hz] | (rw [hy1] at hy2; rw [hy2] at hz; rw [← hz])
  clear hQ1 hb1 hy1 hs1 hq2 hb2 hs2 hy2 hz hq3 hb3 hd
  go_wp2_with fail
  refine (HT.out _ HQZ.out).mono ?_
  rintro e w1 ⟨rfl, hq1⟩
  obtain ⟨W1, hW1⟩ : ∃ y, y = w1.alloc (.cells #[.bool false, .slice none 0 0, .int .i64 0] 24) := ⟨_, rfl⟩
  have hqa : Q z W1 := by rw [hW1]; exact hq1.alloc _
  have HQ2 := Lib.hid (HQZ.out.trans hqa)
  have ho := HO.out.q hqa
  clear hq1 hqa d0 d1 d2 r12 r15
  go_upto_region 2 with fail
  rw [← hW1]
  clear hW1
  have p0 := ho.cell 0 rfl
  have p1 := ho.cell 1 rfl
  have p2 := ho.cell 2 rfl
  have f0 := ho.free 0
  have f1 := ho.free 1
  have f2 := ho.free 2
  have HO3 := Lib.hid (show Bk _ (w.heap.size + 1 + 1) 24 [.bool false, .slice none 0 0, .int .i64 (0)] from ((ho.set 0 (.bool false)).set 1 (.slice none 0 0)).set 2 (.int .i64 (0)))
  have HQ3 := Lib.hid (((HQ2.out.setCell (ad := ⟨w.heap.size + 1 + 1, 0, none⟩) (by show w.heap.size ≤ w.heap.size + 1 + 1; omega) (.bool false)).setCell (ad := ⟨w.heap.size + 1 + 1, 1, none⟩) (by show w.heap.size ≤ w.heap.size + 1 + 1; omega) (.slice none 0 0)).setCell (ad := ⟨w.heap.size + 1 + 1, 2, none⟩) (by show w.heap.size ≤ w.heap.size + 1 + 1; omega) (.int .i64 (0)))
  clear ho
  go_wp2_with fail
  exact Er.ret_dv2 (b := false) (v := .slice none 0 0) (s := 0) rfl rfl rfl HO3.out rfl ⟨rfl, HQ3.out⟩
theorem ad_len2 (g h : Bool) (s t n : Nat) (L N : List Int) (hx : Dm.okD L) (hy : Dm.okD N) (hl : L.length < 500) (hl2 : N.length < 500) (hn : n ≤ 1000) : (Dm.dg (Dm.st (Dm.adM g (Dm.num L * 10 ^ (n - s)) h (Dm.num N * 10 ^ (n - t))) n).1).length < 1900 := by
  have a := Dm.num_lt L hx
  have b := Dm.num_lt N hy
  have c := Dm.ad_le g (Dm.num L * 10 ^ (n - s)) h (Dm.num N * 10 ^ (n - t))
  generalize Dm.adM g (Dm.num L * 10 ^ (n - s)) h (Dm.num N * 10 ^ (n - t)) = M at *
  have one : ∀ (K : List Int) (r : Nat), Dm.num K < 10 ^ K.length → K.length < 500 → Dm.num K * 10 ^ (n - r) < 10 ^ 1500 := by
    intro K r h1 h2
    have e0 : 0 < 10 ^ (n - r) := Nat.pow_pos (by omega)
    calc Dm.num K * 10 ^ (n - r) < 10 ^ K.length * 10 ^ (n - r) := Nat.mul_lt_mul_of_pos_right h1 e0
      _ = 10 ^ (K.length + (n - r)) := (Nat.pow_add _ _ _).symm
      _ ≤ 10 ^ 1500 := Nat.pow_le_pow_right (by omega) (by omega)
  obtain ⟨k, hk⟩ : ∃ k, k = 1500 := ⟨_, rfl⟩
  rw [← hk] at one
  have d1 := one L s a hl
  have d2 := one N t b hl2
  have hM : M < 10 ^ (k + 1) := by rw [Nat.pow_succ]; omega
  have hle := st_fst_le M n
  have := Dm.dg_len_lt (Dm.st M n).1 (k + 1) (Nat.lt_of_le_of_lt hle hM)
  omega
theorem tms_len (s : Nat) (k : Int) (L : List Int) (hd : Dm.okD L) (hk : -1000 ≤ k ∧ k ≤ 1000) : (Dm.dg (Dm.st (Dm.num L * k.natAbs) s).1).length ≤ L.length + 4 := by
  have h1 : Dm.num L * k.natAbs < 10 ^ (L.length + 4) := by
    have h1 := Dm.num_lt L hd
    have h2 : Dm.num L * k.natAbs < 10 ^ L.length * 10 ^ 4 := by
      have h3 : k.natAbs ≤ 1000 := by omega
      calc Dm.num L * k.natAbs ≤ Dm.num L * 1000 := Nat.mul_le_mul_left _ h3
        _ < 10 ^ L.length * 10 ^ 4 := by omega
    rwa [← Nat.pow_add] at h2
  exact Dm.dg_len_lt _ _ (Nat.lt_of_le_of_lt (st_fst_le _ _) h1)
end Kr
end Go.Proofs.Yteljedefbomlgaa
