/- RoundNames: of whatever number (raw, and made a mode) and text (its first 12 bytes) a mode's name is its own, and each name's mode; no conditions. -/
import Derived.Test.YtebcgpoemppljaaRows
import Derived.WalkKit
import Derived.ProofKit
import Derived.OpenShut
import Derived.ShutString
import Derived.ChangeOld
import Derived.Below
import Derived.Lib.SmallJoins
import Derived.Test.YtebcgpoemppljaaInts
import Derived.Test.YtebcgpoemppljaaUtfM
import Derived.Test.YtebcgpoemppljaaUtfG
import Derived.Test.YtebcgpoemppljaaUtfR
import Derived.Test.YtebcgpoemppljaaDigM
import Derived.Test.YtebcgpoemppljaaDigL
import Derived.Test.YtebcgpoemppljaaDigR
import Derived.Test.YtebcgpoemppljaaDecM
import Derived.Test.YtebcgpoemppljaaDecR
import Derived.Test.YtebcgpoemppljaaDecS
import Derived.Test.YtebcgpoemppljaaDecC
import Derived.Test.YtebcgpoemppljaaDecZ
import Derived.Test.YtebcgpoemppljaaDecY
import Derived.Test.YtebcgpoemppljaaRndM
import Derived.Test.YtebcgpoemppljaaRndN
import Derived.Test.YtebcgpoemppljaaRndU
import Derived.Test.YtebcgpoemppljaaRndP
import Derived.Test.YtebcgpoemppljaaRndZ
import Derived.Test.YtebcgpoemppljaaEls
import Derived.Test.YtebcgpoemppljaaRndC
set_option linter.unusedVariables false
set_option linter.unusedSimpArgs false
namespace Go.Proofs.Ytebcgpoemppljaa.roundNames
open Go.ChangeShapes Go.WideShapes Go.ChangeAt Go.RowKit
open Go.ChangeMaps (open_string shut_string)

theorem own : ownKnob Try.prog.godebug = none := by kernel_rfl
theorem laidOut : laidOutB Try.prog = true := by kernel_rfl


set_option maxHeartbeats 8000000 in
set_option maxRecDepth 100000 in
theorem walk (w : World) (a0 : Int) (w0 : -9223372036854775808 ≤ a0 ∧ a0 ≤ 9223372036854775807) (a1 : ByteArray) (w1 : a1.size ≤ maxLen) :
    Calls Try.prog 9 #[.int .i64 a0, .string a1] w fun e w' => e = .returned (.bool true) ∧ Q w w' := by
  have A9 := fun w => Ur.around_any a0 7 w w0.1 w0.2 (by omega) (by omega)
  have hab := Um.around_bd a0 7 (by omega)
  obtain ⟨m, hm⟩ : ∃ t : Nat, Um.around a0 7 = (t : Int) := ⟨(Um.around a0 7).toNat, by omega⟩
  rw [hm] at A9 hab
  have hm7 : m < 7 := by omega
  have hmi : (m : Int) < 7 := by omega
  have AR := Lib.hid A9
  have FW := Lib.hid (fun u => Ur.few_any a1 12 u w1 (by omega))
  have hfs := Ur.few_size a1 12
  generalize Ur.few a1 12 = F at *
  have MO1 := fun u => Rq.mode_any (Rm.nms.getD m ⟨#[]⟩) u (by
    rcases (show m = 0 ∨ m = 1 ∨ m = 2 ∨ m = 3 ∨ m = 4 ∨ m = 5 ∨ m = 6 from by omega) with rfl | rfl | rfl | rfl | rfl | rfl | rfl <;> decide)
  rw [Rm.wn_nm m hm7, if_pos (show (0 : Int) ≤ (m : Int) by omega), if_pos (show (0 : Int) ≤ (m : Int) by omega)] at MO1
  have MO2 := fun u => Rq.mode_any F u (by omega)
  have NA1 := fun u => Rq.name_any m u (by omega)
  rw [Rm.nm_in] at NA1
  have NA2 := fun u => Rq.name_any a0 u w0
  have hcl : ∀ (i : Nat), i < 7 → ∀ u : World, u.heap[w.heap.size]? = some (.cells #[.string ⟨#[100, 111, 119, 110]⟩, .string ⟨#[117, 112]⟩, .string ⟨#[102, 108, 111, 111, 114]⟩, .string ⟨#[99, 101, 105, 108]⟩, .string ⟨#[104, 97, 108, 102, 100, 111, 119, 110]⟩, .string ⟨#[104, 97, 108, 102, 117, 112]⟩, .string ⟨#[104, 97, 108, 102, 101, 118, 101, 110]⟩] 9) → u.cell? ⟨w.heap.size, i, none⟩ = some (.string (Rm.nms.getD i ⟨#[]⟩)) := by
    intro i hi u h
    rcases (show i = 0 ∨ i = 1 ∨ i = 2 ∨ i = 3 ∨ i = 4 ∨ i = 5 ∨ i = 6 from by omega) with rfl | rfl | rfl | rfl | rfl | rfl | rfl <;> simp [World.cell?, h, Rm.nms]
  have HCL := Lib.hid hcl
  have HCM := Lib.hid (hcl m hm7)
  have hwn := Rm.wn_bd F
  obtain ⟨x0, hx0⟩ : ∃ x, x = Rm.nms.getD m ⟨#[]⟩ := ⟨_, rfl⟩
  rw [← hx0] at MO1 NA1 HCM
  have HM1 := Lib.hid MO1
  have HM2 := Lib.hid MO2
  have HN1 := Lib.hid NA1
  have HN2 := Lib.hid NA2
  have HWN := Lib.hid hwn
  have LV := Lib.hid Rl.lives_any
  clear A9 hab hm hfs MO1 MO2 NA1 NA2 hcl hwn hx0 w1
  go_enter Try.func9, Try.ntmps9
  have HB0 := Lib.hid (heap_alloc_new w (.cells #[.string ⟨#[100, 111, 119, 110]⟩, .string ⟨#[117, 112]⟩, .string ⟨#[102, 108, 111, 111, 114]⟩, .string ⟨#[99, 101, 105, 108]⟩, .string ⟨#[104, 97, 108, 102, 100, 111, 119, 110]⟩, .string ⟨#[104, 97, 108, 102, 117, 112]⟩, .string ⟨#[104, 97, 108, 102, 101, 118, 101, 110]⟩] 9))
  have Q0 := Lib.hid ((Q.refl w).alloc (.cells #[.string ⟨#[100, 111, 119, 110]⟩, .string ⟨#[117, 112]⟩, .string ⟨#[102, 108, 111, 111, 114]⟩, .string ⟨#[99, 101, 105, 108]⟩, .string ⟨#[104, 97, 108, 102, 100, 111, 119, 110]⟩, .string ⟨#[104, 97, 108, 102, 117, 112]⟩, .string ⟨#[104, 97, 108, 102, 101, 118, 101, 110]⟩] 9))
  go_wp2_with fail
  refine (AR.out _).mono ?_
  rintro e y ⟨rfl, rfl⟩
  go_wp2_with fail
  refine (FW.out _).mono ?_
  rintro e y ⟨rfl, rfl⟩
  have hcm := HCM.out _ HB0.out
  go_wp2_with fail
  refine (HM1.out _).mono ?_
  rintro e z1 ⟨rfl, hq⟩
  have HB1 := Lib.hid ((Q.block hq (lt_of_block HB0.out)).trans HB0.out)
  have Q1 := Lib.hid (Q0.out.trans hq)
  clear hcm hq HB0 Q0
  go_wp2_with fail
  go_loopw [9, 10] (fun wv iv wr => ∃ i : Nat, iv = .int .i64 i ∧ i ≤ 7 ∧ wv = .int .i64 (Rm.fnd F i) ∧ wr.heap[w.heap.size]? = some (.cells #[.string ⟨#[100, 111, 119, 110]⟩, .string ⟨#[117, 112]⟩, .string ⟨#[102, 108, 111, 111, 114]⟩, .string ⟨#[99, 101, 105, 108]⟩, .string ⟨#[104, 97, 108, 102, 100, 111, 119, 110]⟩, .string ⟨#[104, 97, 108, 102, 117, 112]⟩, .string ⟨#[104, 97, 108, 102, 101, 118, 101, 110]⟩] 9) ∧ Q w wr) (fun _ iv _ => 7 - (intOf iv).toNat)
  case atStart => exact ⟨0, rfl, by omega, rfl, HB1.out, Q1.out⟩
  case round =>
    obtain ⟨i, rfl, hi, rfl, hb, hq⟩ := hrel
    by_cases hlt : i < 7
    · have hc := HCL.out i hlt _ hb
      have hf : Rm.fnd F (i + 1) = if Rm.nms.getD i ⟨#[]⟩ = F then (i : Int) else Rm.fnd F i := rfl
      generalize Rm.nms.getD i ⟨#[]⟩ = xi at *
      generalize Rm.fnd F i = fi at *
      have hlti : (i : Int) < 7 := by omega
      have HB := Lib.hid hb
      have HQ := Lib.hid hq
      clear hb hq
      by_cases he : xi = F
      · rw [if_pos he] at hf
        subst he
        have HF := Lib.hid hf
        clear hf
        go_wp2_with fail
        exact ⟨⟨i + 1, by go_num, by omega, by rw [HF.out], HB.out, HQ.out⟩, by simp [intOf]; omega⟩
      · rw [if_neg he] at hf
        have hse := str_ne he
        have HF := Lib.hid hf
        clear hf
        go_wp2_with fail
        exact ⟨⟨i + 1, by go_num, by omega, by rw [HF.out], HB.out, HQ.out⟩, by simp [intOf]; omega⟩
    · have hi7 : i = 7 := by omega
      subst hi7
      have HB := Lib.hid hb
      have HQ := Lib.hid hq
      have hwe : Rm.fnd F 7 = Rm.wn F := rfl
      rw [hwe]
      have H2 := HM2.out
      have hwb := HWN.out
      generalize Rm.wn F = W at *
      clear hb hq hwe HM2 HWN
      rcases (show (∃ v : Nat, W = (v : Int)) ∨ W = -1 from by
        by_cases h : 0 ≤ W
        · exact .inl ⟨W.toNat, by omega⟩
        · exact .inr (by omega)) with ⟨v, rfl⟩ | rfl
      · have hmx : max (v : Int) 0 = (v : Int) := by omega
        have hmx2 : max (0 : Int) (v : Int) = (v : Int) := by omega
        have hmx3 : (0 : Int) ≤ (v : Int) := by omega
        have hmx4 : ¬ (v : Int) < 0 := by omega
        have hmx5 : (if (v : Int) < 0 then (0 : Int) else (v : Int)) = (v : Int) := if_neg hmx4
        rw [if_pos (show (0 : Int) ≤ (v : Int) by omega), if_pos (show (0 : Int) ≤ (v : Int) by omega)] at H2
        rcases (show a0 < 0 ∨ (∃ k : Nat, a0 = (k : Int) ∧ k < 7) ∨ 7 ≤ a0 from by
          by_cases h : a0 < 0
          · exact .inl h
          · by_cases h2 : a0 < 7
            · exact .inr (.inl ⟨a0.toNat, by omega, by omega⟩)
            · exact .inr (.inr (by omega))) with hn | ⟨k, rfl, hk⟩ | hn
        · have HNX := HN2.out
          rw [Rm.nm_out a0 (.inl hn)] at HNX
          have HNX := Lib.hid HNX
          have hn1 : decide ((0 : Int) ≤ a0) = false := by simp; omega
          have hn2 : ¬ (0 : Int) ≤ a0 := by omega
          have HM2 := Lib.hid H2
          clear H2
          go_wp2_with fail
          refine (HM2.out _).mono ?_
          rintro e z2 ⟨rfl, hq2⟩
          have HB2 := Lib.hid ((Q.block hq2 (lt_of_block HB.out)).trans HB.out)
          have Q2 := Lib.hid (HQ.out.trans hq2)
          clear hq2 HB HQ
          have SQ := Lib.hid (fun u (q : Q z2 u) => (⟨HCM.out u ((Q.block q (lt_of_block HB2.out)).trans HB2.out), q⟩ : Rl.SN z2 w.heap.size m x0 u))
          go_wp2_with fail
          refine wp_region_held_drew (S := fun u => Rl.SN z2 w.heap.size m x0 u) (by kernel_rfl) (by exact SQ.out _ ((Q.refl z2).drew)) (fun hHeld => ?_)
          have hS : Rl.SN z2 w.heap.size m x0 z2.drew := hHeld
          clear hHeld
          generalize z2.drew = yT19x0 at hS ⊢
          refine wpAnyH_take (i := 0) (oi := { dst := some 42, op := Op.move (Operand.tmp 6), type := 3, pos := "law.go:135", after := #[], guard := none }) (v := ?vT19x1) rfl (by kernel_rfl) (by kernel_rfl) (by kernel_rfl) (fun _ _ _ h => h) (Or.inl ⟨by rfl, ?hyT19x1⟩) (by exact hS) ?rsT19x1
          case hyT19x1 => (intro w hSw; (try dsimp only at hSw); unfold Rl.SN at hSw; go_simp; try with_reducible rfl)
          try simp only [Act.put, List.setIfInBounds_toArray, List.set_cons_zero, List.set_cons_succ]
          refine wpAnyH_take (i := 2) (oi := { dst := some 44, op := Op.move (Operand.tmp 5), type := 50, pos := "law.go:135", after := #[], guard := none }) (v := ?vT19x2) rfl (by kernel_rfl) (by kernel_rfl) (by kernel_rfl) (fun _ _ _ h => h) (Or.inl ⟨by rfl, ?hyT19x2⟩) (by exact hS) ?rsT19x2
          case hyT19x2 => (intro w hSw; (try dsimp only at hSw); unfold Rl.SN at hSw; go_simp; try with_reducible rfl)
          try simp only [Act.put, List.setIfInBounds_toArray, List.set_cons_zero, List.set_cons_succ]
          refine wpAnyH_take (i := 3) (oi := { dst := some 45, op := Op.move (Operand.tmp 6), type := 3, pos := "law.go:135", after := #[], guard := none }) (v := ?vT19x3) rfl (by kernel_rfl) (by kernel_rfl) (by kernel_rfl) (fun _ _ _ h => h) (Or.inl ⟨by rfl, ?hyT19x3⟩) (by exact hS) ?rsT19x3
          case hyT19x3 => (intro w hSw; (try dsimp only at hSw); unfold Rl.SN at hSw; go_simp; try with_reducible rfl)
          try simp only [Act.put, List.setIfInBounds_toArray, List.set_cons_zero, List.set_cons_succ]
          refine wpAnyH_take (i := 4) (oi := { dst := some 46, op := Op.indexAddr 50 (Operand.tmp 44) (Operand.tmp 45), type := 0, pos := "law.go:135", after := #[{ on := 2, ground := Ground.data }, { on := 3, ground := Ground.data }], guard := none }) (v := ?vT19x4) rfl (by kernel_rfl) (by kernel_rfl) (by kernel_rfl) (fun _ _ _ h => h) (Or.inl ⟨by rfl, ?hyT19x4⟩) (by exact hS) ?rsT19x4
          case hyT19x4 => (intro w hSw; (try dsimp only at hSw); unfold Rl.SN at hSw; go_simp; try with_reducible rfl)
          try simp only [Act.put, List.setIfInBounds_toArray, List.set_cons_zero, List.set_cons_succ]
          refine wpAnyH_take (i := 5) (oi := { dst := some 47, op := Op.load 9 (Operand.tmp 46), type := 9, pos := "law.go:135", after := #[{ on := 4, ground := Ground.data }], guard := none }) (v := ?vT19x5) rfl (by kernel_rfl) (by kernel_rfl) (by kernel_rfl) (fun _ _ _ h => h) (Or.inl ⟨by rfl, ?hyT19x5⟩) (by exact hS) ?rsT19x5
          case hyT19x5 => (intro w hSw; (try dsimp only at hSw); unfold Rl.SN at hSw; go_simp; try with_reducible rfl)
          try simp only [Act.put, List.setIfInBounds_toArray, List.set_cons_zero, List.set_cons_succ]
          refine wpAnyH_ready (rs := [1]) (by kernel_rfl) (by simp) ?_
          refine (AllReadyH.cons (o := { dst := some 43, op := Op.call { callee := Callee.value (Operand.func 30), args := #[Operand.tmp 42], argTypes := #[3] }, type := 9, pos := "law.go:135", after := #[{ on := 0, ground := Ground.data }], guard := none }) rfl (fun K hK => ?_) AllReadyH.nil)
          go_simp
          refine (HN1.out _).mono ?_
          rintro e yT19x6 ⟨rfl, hq⟩
          try (go_wp2_with fail)
          have hS2 := SQ.out _ (Q.trans (Rl.SN.here hS) hq)
          refine hK.out _ _ (by exact hS2) (fun hHeld => ?_)
          clear hK K hHeld hS hq
          have hS := hS2
          clear hS2
          try simp only [Act.put, List.setIfInBounds_toArray, List.set_cons_zero, List.set_cons_succ]
          refine wpAnyH_take (i := 6) (oi := { dst := some 48, op := Op.binOp BinOp.eql 9 (Operand.tmp 43) (Operand.tmp 47) 9, type := 4, pos := "law.go:135", after := #[{ on := 1, ground := Ground.data }, { on := 5, ground := Ground.data }], guard := none }) (v := ?vT19x7) rfl (by kernel_rfl) (by kernel_rfl) (by kernel_rfl) (fun _ _ _ h => h) (Or.inl ⟨by rfl, ?hyT19x7⟩) (by exact hS) ?rsT19x7
          case hyT19x7 => (intro w hSw; (try dsimp only at hSw); unfold Rl.SN at hSw; go_simp; try with_reducible rfl)
          try simp only [Act.put, List.setIfInBounds_toArray, List.set_cons_zero, List.set_cons_succ]
          refine wpAnyH_take (i := 7) (oi := { dst := some 49, op := Op.move (Operand.tmp 48), type := 4, pos := "law.go:135", after := #[{ on := 6, ground := Ground.data }, { on := 1, ground := Ground.chain }], guard := none }) (v := ?vT19x8) rfl (by kernel_rfl) (by kernel_rfl) (by kernel_rfl) (fun _ _ _ h => h) (Or.inl ⟨by rfl, ?hyT19x8⟩) (by exact hS) ?rsT19x8
          case hyT19x8 => (intro w hSw; (try dsimp only at hSw); unfold Rl.SN at hSw; go_simp; try with_reducible rfl)
          try simp only [Act.put, List.setIfInBounds_toArray, List.set_cons_zero, List.set_cons_succ]
          refine wpAnyH_take (i := 8) (oi := { dst := some 50, op := Op.move (Operand.tmp 7), type := 3, pos := "law.go:135", after := #[{ on := 7, ground := Ground.guard }], guard := some (7, true) }) (v := ?vT19x9) rfl (by kernel_rfl) (by kernel_rfl) (by kernel_rfl) (fun _ _ _ h => h) (Or.inl ⟨by rfl, ?hyT19x9⟩) (by exact hS) ?rsT19x9
          case hyT19x9 => (intro w hSw; (try dsimp only at hSw); unfold Rl.SN at hSw; go_simp; try with_reducible rfl)
          try simp only [Act.put, List.setIfInBounds_toArray, List.set_cons_zero, List.set_cons_succ]
          refine wpAnyH_take (i := 9) (oi := { dst := some 51, op := Op.move (Operand.tmp 6), type := 3, pos := "law.go:135", after := #[{ on := 7, ground := Ground.guard }], guard := some (7, true) }) (v := ?vT19x10) rfl (by kernel_rfl) (by kernel_rfl) (by kernel_rfl) (fun _ _ _ h => h) (Or.inl ⟨by rfl, ?hyT19x10⟩) (by exact hS) ?rsT19x10
          case hyT19x10 => (intro w hSw; (try dsimp only at hSw); unfold Rl.SN at hSw; go_simp; try with_reducible rfl)
          try simp only [Act.put, List.setIfInBounds_toArray, List.set_cons_zero, List.set_cons_succ]
          refine wpAnyH_take (i := 10) (oi := { dst := some 52, op := Op.binOp BinOp.eql 3 (Operand.tmp 50) (Operand.tmp 51) 3, type := 4, pos := "law.go:135", after := #[{ on := 8, ground := Ground.data }, { on := 9, ground := Ground.data }, { on := 7, ground := Ground.guard }], guard := some (7, true) }) (v := ?vT19x11) rfl (by kernel_rfl) (by kernel_rfl) (by kernel_rfl) (fun _ _ _ h => h) (Or.inl ⟨by rfl, ?hyT19x11⟩) (by exact hS) ?rsT19x11
          case hyT19x11 => (intro w hSw; (try dsimp only at hSw); unfold Rl.SN at hSw; go_simp; try with_reducible rfl)
          try simp only [Act.put, List.setIfInBounds_toArray, List.set_cons_zero, List.set_cons_succ]
          refine wpAnyH_take (i := 11) (oi := { dst := some 53, op := Op.pick (Operand.tmp 49) (Operand.tmp 52) (Operand.const (Value.bool false)), type := 4, pos := "law.go:135", after := #[{ on := 7, ground := Ground.data }, { on := 10, ground := Ground.data }], guard := none }) (v := ?vT19x12) rfl (by kernel_rfl) (by kernel_rfl) (by kernel_rfl) (fun _ _ _ h => h) (Or.inl ⟨by rfl, ?hyT19x12⟩) (by exact hS) ?rsT19x12
          case hyT19x12 => (intro w hSw; (try dsimp only at hSw); unfold Rl.SN at hSw; go_simp; try with_reducible rfl)
          try simp only [Act.put, List.setIfInBounds_toArray, List.set_cons_zero, List.set_cons_succ]
          refine wpAnyH_take (i := 12) (oi := { dst := some 54, op := Op.move (Operand.tmp 53), type := 4, pos := "law.go:135", after := #[{ on := 11, ground := Ground.data }, { on := 7, ground := Ground.chain }], guard := none }) (v := ?vT19x13) rfl (by kernel_rfl) (by kernel_rfl) (by kernel_rfl) (fun _ _ _ h => h) (Or.inl ⟨by rfl, ?hyT19x13⟩) (by exact hS) ?rsT19x13
          case hyT19x13 => (intro w hSw; (try dsimp only at hSw); unfold Rl.SN at hSw; go_simp; try with_reducible rfl)
          try simp only [Act.put, List.setIfInBounds_toArray, List.set_cons_zero, List.set_cons_succ]
          refine wpAnyH_take (i := 13) (oi := { dst := some 55, op := Op.move (Operand.tmp 8), type := 28, pos := "law.go:135", after := #[{ on := 12, ground := Ground.guard }], guard := some (12, true) }) (v := ?vT19x14) rfl (by kernel_rfl) (by kernel_rfl) (by kernel_rfl) (fun _ _ _ h => h) (Or.inl ⟨by rfl, ?hyT19x14⟩) (by exact hS) ?rsT19x14
          case hyT19x14 => (intro w hSw; (try dsimp only at hSw); unfold Rl.SN at hSw; go_simp; try with_reducible rfl)
          try simp only [Act.put, List.setIfInBounds_toArray, List.set_cons_zero, List.set_cons_succ]
          refine wpAnyH_take (i := 14) (oi := { dst := some 56, op := Op.binOp BinOp.eql 28 (Operand.tmp 55) (Operand.const (Value.int IntKind.i64 0)) 28, type := 4, pos := "law.go:135", after := #[{ on := 13, ground := Ground.data }, { on := 12, ground := Ground.guard }], guard := some (12, true) }) (v := ?vT19x15) rfl (by kernel_rfl) (by kernel_rfl) (by kernel_rfl) (fun _ _ _ h => h) (Or.inl ⟨by rfl, ?hyT19x15⟩) (by exact hS) ?rsT19x15
          case hyT19x15 => (intro w hSw; (try dsimp only at hSw); unfold Rl.SN at hSw; go_simp; try with_reducible rfl)
          try simp only [Act.put, List.setIfInBounds_toArray, List.set_cons_zero, List.set_cons_succ]
          refine wpAnyH_take (i := 15) (oi := { dst := some 57, op := Op.pick (Operand.tmp 54) (Operand.tmp 56) (Operand.const (Value.bool false)), type := 4, pos := "law.go:135", after := #[{ on := 12, ground := Ground.data }, { on := 14, ground := Ground.data }], guard := none }) (v := ?vT19x16) rfl (by kernel_rfl) (by kernel_rfl) (by kernel_rfl) (fun _ _ _ h => h) (Or.inl ⟨by rfl, ?hyT19x16⟩) (by exact hS) ?rsT19x16
          case hyT19x16 => (intro w hSw; (try dsimp only at hSw); unfold Rl.SN at hSw; go_simp; try with_reducible rfl)
          try simp only [Act.put, List.setIfInBounds_toArray, List.set_cons_zero, List.set_cons_succ]
          refine wpAnyH_take (i := 16) (oi := { dst := some 58, op := Op.move (Operand.tmp 57), type := 4, pos := "law.go:135", after := #[{ on := 15, ground := Ground.data }, { on := 12, ground := Ground.chain }], guard := none }) (v := ?vT19x17) rfl (by kernel_rfl) (by kernel_rfl) (by kernel_rfl) (fun _ _ _ h => h) (Or.inl ⟨by rfl, ?hyT19x17⟩) (by exact hS) ?rsT19x17
          case hyT19x17 => (intro w hSw; (try dsimp only at hSw); unfold Rl.SN at hSw; go_simp; try with_reducible rfl)
          try simp only [Act.put, List.setIfInBounds_toArray, List.set_cons_zero, List.set_cons_succ]
          refine wpAnyH_take (i := 17) (oi := { dst := some 59, op := Op.move (Operand.tmp 0), type := 3, pos := "law.go:135", after := #[{ on := 16, ground := Ground.guard }], guard := some (16, true) }) (v := ?vT19x18) rfl (by kernel_rfl) (by kernel_rfl) (by kernel_rfl) (fun _ _ _ h => h) (Or.inl ⟨by rfl, ?hyT19x18⟩) (by exact hS) ?rsT19x18
          case hyT19x18 => (intro w hSw; (try dsimp only at hSw); unfold Rl.SN at hSw; go_simp; try with_reducible rfl)
          try simp only [Act.put, List.setIfInBounds_toArray, List.set_cons_zero, List.set_cons_succ]
          refine wpAnyH_take (i := 20) (oi := { dst := some 62, op := Op.move (Operand.tmp 0), type := 3, pos := "law.go:135", after := #[{ on := 16, ground := Ground.guard }], guard := some (16, true) }) (v := ?vT19x19) rfl (by kernel_rfl) (by kernel_rfl) (by kernel_rfl) (fun _ _ _ h => h) (Or.inl ⟨by rfl, ?hyT19x19⟩) (by exact hS) ?rsT19x19
          case hyT19x19 => (intro w hSw; (try dsimp only at hSw); unfold Rl.SN at hSw; go_simp; try with_reducible rfl)
          try simp only [Act.put, List.setIfInBounds_toArray, List.set_cons_zero, List.set_cons_succ]
          refine wpAnyH_take (i := 21) (oi := { dst := some 63, op := Op.binOp BinOp.geq 3 (Operand.tmp 62) (Operand.const (Value.int IntKind.i64 0)) 3, type := 4, pos := "law.go:135", after := #[{ on := 20, ground := Ground.data }, { on := 16, ground := Ground.guard }], guard := some (16, true) }) (v := ?vT19x20) rfl (by kernel_rfl) (by kernel_rfl) (by kernel_rfl) (fun _ _ _ h => h) (Or.inl ⟨by rfl, ?hyT19x20⟩) (by exact hS) ?rsT19x20
          case hyT19x20 => (intro w hSw; (try dsimp only at hSw); unfold Rl.SN at hSw; go_simp; try with_reducible rfl)
          try simp only [Act.put, List.setIfInBounds_toArray, List.set_cons_zero, List.set_cons_succ]
          refine wpAnyH_ready (rs := [18]) (by kernel_rfl) (by simp) ?_
          refine (AllReadyH.cons (o := { dst := some 60, op := Op.call { callee := Callee.value (Operand.func 30), args := #[Operand.tmp 59], argTypes := #[3] }, type := 9, pos := "law.go:135", after := #[{ on := 17, ground := Ground.data }, { on := 16, ground := Ground.chain }, { on := 16, ground := Ground.guard }], guard := some (16, true) }) rfl (fun K hK => ?_) AllReadyH.nil)
          go_simp
          refine (HNX.out _).mono ?_
          rintro e yT19x21 ⟨rfl, hq⟩
          try (go_wp2_with fail)
          have hS2 := SQ.out _ (Q.trans (Rl.SN.here hS) hq)
          refine hK.out _ _ (by exact hS2) (fun hHeld => ?_)
          clear hK K hHeld hS hq
          have hS := hS2
          clear hS2
          try simp only [Act.put, List.setIfInBounds_toArray, List.set_cons_zero, List.set_cons_succ]
          refine wpAnyH_take (i := 19) (oi := { dst := some 61, op := Op.binOp BinOp.neq 9 (Operand.tmp 60) (Operand.const (Value.string { data := #[] })) 9, type := 4, pos := "law.go:135", after := #[{ on := 18, ground := Ground.data }, { on := 16, ground := Ground.guard }], guard := some (16, true) }) (v := ?vT19x22) rfl (by kernel_rfl) (by kernel_rfl) (by kernel_rfl) (fun _ _ _ h => h) (Or.inl ⟨by rfl, ?hyT19x22⟩) (by exact hS) ?rsT19x22
          case hyT19x22 => (intro w hSw; (try dsimp only at hSw); unfold Rl.SN at hSw; go_simp; try with_reducible rfl)
          try simp only [Act.put, List.setIfInBounds_toArray, List.set_cons_zero, List.set_cons_succ]
          refine wpAnyH_take (i := 22) (oi := { dst := some 64, op := Op.move (Operand.tmp 63), type := 4, pos := "law.go:135", after := #[{ on := 21, ground := Ground.data }, { on := 18, ground := Ground.chain }, { on := 16, ground := Ground.guard }], guard := some (16, true) }) (v := ?vT19x23) rfl (by kernel_rfl) (by kernel_rfl) (by kernel_rfl) (fun _ _ _ h => h) (Or.inl ⟨by rfl, ?hyT19x23⟩) (by exact hS) ?rsT19x23
          case hyT19x23 => (intro w hSw; (try dsimp only at hSw); unfold Rl.SN at hSw; go_simp; try with_reducible rfl)
          try simp only [Act.put, List.setIfInBounds_toArray, List.set_cons_zero, List.set_cons_succ]
          refine wpAnyH_take (i := 23) (oi := { dst := some 65, op := Op.move (Operand.tmp 0), type := 3, pos := "law.go:135", after := #[{ on := 22, ground := Ground.guard }], guard := some (22, true) }) (v := undef) rfl (by kernel_rfl) (by kernel_rfl) (by kernel_rfl) (fun _ _ _ h => h) (Or.inr ⟨by rfl, rfl⟩) (by exact hS) ?_
          try simp only [Act.put, List.setIfInBounds_toArray, List.set_cons_zero, List.set_cons_succ]
          refine wpAnyH_take (i := 24) (oi := { dst := some 66, op := Op.binOp BinOp.lss 3 (Operand.tmp 65) (Operand.const (Value.int IntKind.i64 7)) 3, type := 4, pos := "law.go:135", after := #[{ on := 23, ground := Ground.data }, { on := 22, ground := Ground.guard }], guard := some (22, true) }) (v := undef) rfl (by kernel_rfl) (by kernel_rfl) (by kernel_rfl) (fun _ _ _ h => h) (Or.inr ⟨by rfl, rfl⟩) (by exact hS) ?_
          try simp only [Act.put, List.setIfInBounds_toArray, List.set_cons_zero, List.set_cons_succ]
          refine wpAnyH_take (i := 25) (oi := { dst := some 67, op := Op.pick (Operand.tmp 64) (Operand.tmp 66) (Operand.const (Value.bool false)), type := 4, pos := "law.go:135", after := #[{ on := 22, ground := Ground.data }, { on := 24, ground := Ground.data }, { on := 16, ground := Ground.guard }], guard := some (16, true) }) (v := ?vT19x26) rfl (by kernel_rfl) (by kernel_rfl) (by kernel_rfl) (fun _ _ _ h => h) (Or.inl ⟨by rfl, ?hyT19x26⟩) (by exact hS) ?rsT19x26
          case hyT19x26 => (intro w hSw; (try dsimp only at hSw); unfold Rl.SN at hSw; go_simp; try with_reducible rfl)
          try simp only [Act.put, List.setIfInBounds_toArray, List.set_cons_zero, List.set_cons_succ]
          refine wpAnyH_take (i := 26) (oi := { dst := some 68, op := Op.binOp BinOp.eql 4 (Operand.tmp 61) (Operand.tmp 67) 4, type := 4, pos := "law.go:135", after := #[{ on := 19, ground := Ground.data }, { on := 25, ground := Ground.data }, { on := 16, ground := Ground.guard }], guard := some (16, true) }) (v := ?vT19x27) rfl (by kernel_rfl) (by kernel_rfl) (by kernel_rfl) (fun _ _ _ h => h) (Or.inl ⟨by rfl, ?hyT19x27⟩) (by exact hS) ?rsT19x27
          case hyT19x27 => (intro w hSw; (try dsimp only at hSw); unfold Rl.SN at hSw; go_simp; try with_reducible rfl)
          try simp only [Act.put, List.setIfInBounds_toArray, List.set_cons_zero, List.set_cons_succ]
          refine wpAnyH_take (i := 27) (oi := { dst := some 69, op := Op.pick (Operand.tmp 58) (Operand.tmp 68) (Operand.const (Value.bool false)), type := 4, pos := "law.go:135", after := #[{ on := 16, ground := Ground.data }, { on := 26, ground := Ground.data }], guard := none }) (v := ?vT19x28) rfl (by kernel_rfl) (by kernel_rfl) (by kernel_rfl) (fun _ _ _ h => h) (Or.inl ⟨by rfl, ?hyT19x28⟩) (by exact hS) ?rsT19x28
          case hyT19x28 => (intro w hSw; (try dsimp only at hSw); unfold Rl.SN at hSw; go_simp; try with_reducible rfl)
          try simp only [Act.put, List.setIfInBounds_toArray, List.set_cons_zero, List.set_cons_succ]
          refine wpAnyH_take (i := 28) (oi := { dst := some 70, op := Op.move (Operand.tmp 69), type := 4, pos := "law.go:135", after := #[{ on := 27, ground := Ground.data }, { on := 22, ground := Ground.chain }], guard := none }) (v := ?vT19x29) rfl (by kernel_rfl) (by kernel_rfl) (by kernel_rfl) (fun _ _ _ h => h) (Or.inl ⟨by rfl, ?hyT19x29⟩) (by exact hS) ?rsT19x29
          case hyT19x29 => (intro w hSw; (try dsimp only at hSw); unfold Rl.SN at hSw; go_simp; try with_reducible rfl)
          try simp only [Act.put, List.setIfInBounds_toArray, List.set_cons_zero, List.set_cons_succ]
          refine wpAnyH_take (i := 29) (oi := { dst := some 71, op := Op.move (Operand.tmp 12), type := 28, pos := "law.go:135", after := #[{ on := 28, ground := Ground.guard }], guard := some (28, true) }) (v := ?vT19x30) rfl (by kernel_rfl) (by kernel_rfl) (by kernel_rfl) (fun _ _ _ h => h) (Or.inl ⟨by rfl, ?hyT19x30⟩) (by exact hS) ?rsT19x30
          case hyT19x30 => (intro w hSw; (try dsimp only at hSw); unfold Rl.SN at hSw; go_simp; try with_reducible rfl)
          try simp only [Act.put, List.setIfInBounds_toArray, List.set_cons_zero, List.set_cons_succ]
          refine wpAnyH_take (i := 30) (oi := { dst := some 72, op := Op.binOp BinOp.eql 28 (Operand.tmp 71) (Operand.const (Value.int IntKind.i64 0)) 28, type := 4, pos := "law.go:135", after := #[{ on := 29, ground := Ground.data }, { on := 28, ground := Ground.guard }], guard := some (28, true) }) (v := ?vT19x31) rfl (by kernel_rfl) (by kernel_rfl) (by kernel_rfl) (fun _ _ _ h => h) (Or.inl ⟨by rfl, ?hyT19x31⟩) (by exact hS) ?rsT19x31
          case hyT19x31 => (intro w hSw; (try dsimp only at hSw); unfold Rl.SN at hSw; go_simp; try with_reducible rfl)
          try simp only [Act.put, List.setIfInBounds_toArray, List.set_cons_zero, List.set_cons_succ]
          refine wpAnyH_take (i := 31) (oi := { dst := some 73, op := Op.move (Operand.tmp 9), type := 3, pos := "law.go:135", after := #[{ on := 28, ground := Ground.guard }], guard := some (28, true) }) (v := ?vT19x32) rfl (by kernel_rfl) (by kernel_rfl) (by kernel_rfl) (fun _ _ _ h => h) (Or.inl ⟨by rfl, ?hyT19x32⟩) (by exact hS) ?rsT19x32
          case hyT19x32 => (intro w hSw; (try dsimp only at hSw); unfold Rl.SN at hSw; go_simp; try with_reducible rfl)
          try simp only [Act.put, List.setIfInBounds_toArray, List.set_cons_zero, List.set_cons_succ]
          refine wpAnyH_take (i := 32) (oi := { dst := some 74, op := Op.binOp BinOp.geq 3 (Operand.tmp 73) (Operand.const (Value.int IntKind.i64 0)) 3, type := 4, pos := "law.go:135", after := #[{ on := 31, ground := Ground.data }, { on := 28, ground := Ground.guard }], guard := some (28, true) }) (v := ?vT19x33) rfl (by kernel_rfl) (by kernel_rfl) (by kernel_rfl) (fun _ _ _ h => h) (Or.inl ⟨by rfl, ?hyT19x33⟩) (by exact hS) ?rsT19x33
          case hyT19x33 => (intro w hSw; (try dsimp only at hSw); unfold Rl.SN at hSw; go_simp; try with_reducible rfl)
          try simp only [Act.put, List.setIfInBounds_toArray, List.set_cons_zero, List.set_cons_succ]
          refine wpAnyH_take (i := 33) (oi := { dst := some 75, op := Op.binOp BinOp.eql 4 (Operand.tmp 72) (Operand.tmp 74) 4, type := 4, pos := "law.go:135", after := #[{ on := 30, ground := Ground.data }, { on := 32, ground := Ground.data }, { on := 28, ground := Ground.guard }], guard := some (28, true) }) (v := ?vT19x34) rfl (by kernel_rfl) (by kernel_rfl) (by kernel_rfl) (fun _ _ _ h => h) (Or.inl ⟨by rfl, ?hyT19x34⟩) (by exact hS) ?rsT19x34
          case hyT19x34 => (intro w hSw; (try dsimp only at hSw); unfold Rl.SN at hSw; go_simp; try with_reducible rfl)
          try simp only [Act.put, List.setIfInBounds_toArray, List.set_cons_zero, List.set_cons_succ]
          refine wpAnyH_take (i := 34) (oi := { dst := some 76, op := Op.pick (Operand.tmp 70) (Operand.tmp 75) (Operand.const (Value.bool false)), type := 4, pos := "law.go:135", after := #[{ on := 28, ground := Ground.data }, { on := 33, ground := Ground.data }], guard := none }) (v := ?vT19x35) rfl (by kernel_rfl) (by kernel_rfl) (by kernel_rfl) (fun _ _ _ h => h) (Or.inl ⟨by rfl, ?hyT19x35⟩) (by exact hS) ?rsT19x35
          case hyT19x35 => (intro w hSw; (try dsimp only at hSw); unfold Rl.SN at hSw; go_simp; try with_reducible rfl)
          try simp only [Act.put, List.setIfInBounds_toArray, List.set_cons_zero, List.set_cons_succ]
          refine wpAnyH_take (i := 35) (oi := { dst := some 77, op := Op.move (Operand.tmp 76), type := 4, pos := "law.go:135", after := #[{ on := 34, ground := Ground.data }, { on := 28, ground := Ground.chain }], guard := none }) (v := ?vT19x36) rfl (by kernel_rfl) (by kernel_rfl) (by kernel_rfl) (fun _ _ _ h => h) (Or.inl ⟨by rfl, ?hyT19x36⟩) (by exact hS) ?rsT19x36
          case hyT19x36 => (intro w hSw; (try dsimp only at hSw); unfold Rl.SN at hSw; go_simp; try with_reducible rfl)
          try simp only [Act.put, List.setIfInBounds_toArray, List.set_cons_zero, List.set_cons_succ]
          refine wpAnyH_take (i := 36) (oi := { dst := some 78, op := Op.move (Operand.tmp 11), type := 3, pos := "law.go:135", after := #[{ on := 35, ground := Ground.guard }], guard := some (35, true) }) (v := ?vT19x37) rfl (by kernel_rfl) (by kernel_rfl) (by kernel_rfl) (fun _ _ _ h => h) (Or.inl ⟨by rfl, ?hyT19x37⟩) (by exact hS) ?rsT19x37
          case hyT19x37 => (intro w hSw; (try dsimp only at hSw); unfold Rl.SN at hSw; go_simp; try with_reducible rfl)
          try simp only [Act.put, List.setIfInBounds_toArray, List.set_cons_zero, List.set_cons_succ]
          refine wpAnyH_take (i := 37) (oi := { dst := some 79, op := Op.move (Operand.tmp 9), type := 3, pos := "law.go:135", after := #[{ on := 35, ground := Ground.guard }], guard := some (35, true) }) (v := ?vT19x38) rfl (by kernel_rfl) (by kernel_rfl) (by kernel_rfl) (fun _ _ _ h => h) (Or.inl ⟨by rfl, ?hyT19x38⟩) (by exact hS) ?rsT19x38
          case hyT19x38 => (intro w hSw; (try dsimp only at hSw); unfold Rl.SN at hSw; go_simp; try with_reducible rfl)
          try simp only [Act.put, List.setIfInBounds_toArray, List.set_cons_zero, List.set_cons_succ]
          refine wpAnyH_take (i := 38) (oi := { dst := some 80, op := Op.call { callee := Callee.builtin Builtin.max, args := #[Operand.tmp 79, Operand.const (Value.int IntKind.i64 0)], argTypes := #[3, 3] }, type := 3, pos := "law.go:135", after := #[{ on := 37, ground := Ground.data }, { on := 35, ground := Ground.guard }], guard := some (35, true) }) (v := ?vT19x39) rfl (by kernel_rfl) (by kernel_rfl) (by kernel_rfl) (fun _ _ _ h => h) (Or.inl ⟨by rfl, ?hyT19x39⟩) (by exact hS) ?rsT19x39
          case hyT19x39 => (intro w hSw; (try dsimp only at hSw); unfold Rl.SN at hSw; go_simp; try with_reducible rfl)
          try simp only [Act.put, List.setIfInBounds_toArray, List.set_cons_zero, List.set_cons_succ]
          refine wpAnyH_take (i := 39) (oi := { dst := some 81, op := Op.binOp BinOp.eql 3 (Operand.tmp 78) (Operand.tmp 80) 3, type := 4, pos := "law.go:135", after := #[{ on := 36, ground := Ground.data }, { on := 38, ground := Ground.data }, { on := 35, ground := Ground.guard }], guard := some (35, true) }) (v := ?vT19x40) rfl (by kernel_rfl) (by kernel_rfl) (by kernel_rfl) (fun _ _ _ h => h) (Or.inl ⟨by rfl, ?hyT19x40⟩) (by exact hS) ?rsT19x40
          case hyT19x40 => (intro w hSw; (try dsimp only at hSw); unfold Rl.SN at hSw; go_simp; try with_reducible rfl)
          try simp only [Act.put, List.setIfInBounds_toArray, List.set_cons_zero, List.set_cons_succ]
          refine wpAnyH_take (i := 40) (oi := { dst := some 82, op := Op.pick (Operand.tmp 77) (Operand.tmp 81) (Operand.const (Value.bool false)), type := 4, pos := "law.go:135", after := #[{ on := 35, ground := Ground.data }, { on := 39, ground := Ground.data }], guard := none }) (v := ?vT19x41) rfl (by kernel_rfl) (by kernel_rfl) (by kernel_rfl) (fun _ _ _ h => h) (Or.inl ⟨by rfl, ?hyT19x41⟩) (by exact hS) ?rsT19x41
          case hyT19x41 => (intro w hSw; (try dsimp only at hSw); unfold Rl.SN at hSw; go_simp; try with_reducible rfl)
          try simp only [Act.put, List.setIfInBounds_toArray, List.set_cons_zero, List.set_cons_succ]
          refine wpAnyH_take (i := 41) (oi := { dst := some 83, op := Op.move (Operand.tmp 82), type := 4, pos := "law.go:135", after := #[{ on := 40, ground := Ground.data }, { on := 35, ground := Ground.chain }], guard := none }) (v := ?vT19x42) rfl (by kernel_rfl) (by kernel_rfl) (by kernel_rfl) (fun _ _ _ h => h) (Or.inl ⟨by rfl, ?hyT19x42⟩) (by exact hS) ?rsT19x42
          case hyT19x42 => (intro w hSw; (try dsimp only at hSw); unfold Rl.SN at hSw; go_simp; try with_reducible rfl)
          try simp only [Act.put, List.setIfInBounds_toArray, List.set_cons_zero, List.set_cons_succ]
          refine wpAnyH_take (i := 42) (oi := { dst := some 84, op := Op.move (Operand.tmp 9), type := 3, pos := "law.go:135", after := #[{ on := 41, ground := Ground.guard }], guard := some (41, true) }) (v := ?vT19x43) rfl (by kernel_rfl) (by kernel_rfl) (by kernel_rfl) (fun _ _ _ h => h) (Or.inl ⟨by rfl, ?hyT19x43⟩) (by exact hS) ?rsT19x43
          case hyT19x43 => (intro w hSw; (try dsimp only at hSw); unfold Rl.SN at hSw; go_simp; try with_reducible rfl)
          try simp only [Act.put, List.setIfInBounds_toArray, List.set_cons_zero, List.set_cons_succ]
          refine wpAnyH_take (i := 43) (oi := { dst := some 85, op := Op.binOp BinOp.geq 3 (Operand.tmp 84) (Operand.const (Value.int IntKind.i64 0)) 3, type := 4, pos := "law.go:135", after := #[{ on := 42, ground := Ground.data }, { on := 41, ground := Ground.guard }], guard := some (41, true) }) (v := ?vT19x44) rfl (by kernel_rfl) (by kernel_rfl) (by kernel_rfl) (fun _ _ _ h => h) (Or.inl ⟨by rfl, ?hyT19x44⟩) (by exact hS) ?rsT19x44
          case hyT19x44 => (intro w hSw; (try dsimp only at hSw); unfold Rl.SN at hSw; go_simp; try with_reducible rfl)
          try simp only [Act.put, List.setIfInBounds_toArray, List.set_cons_zero, List.set_cons_succ]
          refine wpAnyH_take (i := 44) (oi := { dst := some 86, op := Op.move (Operand.tmp 85), type := 4, pos := "law.go:135", after := #[{ on := 43, ground := Ground.data }, { on := 41, ground := Ground.chain }, { on := 41, ground := Ground.guard }], guard := some (41, true) }) (v := ?vT19x45) rfl (by kernel_rfl) (by kernel_rfl) (by kernel_rfl) (fun _ _ _ h => h) (Or.inl ⟨by rfl, ?hyT19x45⟩) (by exact hS) ?rsT19x45
          case hyT19x45 => (intro w hSw; (try dsimp only at hSw); unfold Rl.SN at hSw; go_simp; try with_reducible rfl)
          try simp only [Act.put, List.setIfInBounds_toArray, List.set_cons_zero, List.set_cons_succ]
          refine wpAnyH_take (i := 45) (oi := { dst := some 87, op := Op.move (Operand.tmp 12), type := 28, pos := "law.go:135", after := #[{ on := 44, ground := Ground.guard }], guard := some (44, false) }) (v := undef) rfl (by kernel_rfl) (by kernel_rfl) (by kernel_rfl) (fun _ _ _ h => h) (Or.inr ⟨by rfl, rfl⟩) (by exact hS) ?_
          try simp only [Act.put, List.setIfInBounds_toArray, List.set_cons_zero, List.set_cons_succ]
          refine wpAnyH_take (i := 46) (oi := { dst := some 88, op := Op.binOp BinOp.eql 28 (Operand.tmp 87) (Operand.const (Value.int IntKind.i64 7)) 28, type := 4, pos := "law.go:135", after := #[{ on := 45, ground := Ground.data }, { on := 44, ground := Ground.guard }], guard := some (44, false) }) (v := undef) rfl (by kernel_rfl) (by kernel_rfl) (by kernel_rfl) (fun _ _ _ h => h) (Or.inr ⟨by rfl, rfl⟩) (by exact hS) ?_
          try simp only [Act.put, List.setIfInBounds_toArray, List.set_cons_zero, List.set_cons_succ]
          refine wpAnyH_take (i := 47) (oi := { dst := some 89, op := Op.pick (Operand.tmp 86) (Operand.const (Value.bool true)) (Operand.tmp 88), type := 4, pos := "law.go:135", after := #[{ on := 44, ground := Ground.data }, { on := 46, ground := Ground.data }, { on := 41, ground := Ground.guard }], guard := some (41, true) }) (v := ?vT19x48) rfl (by kernel_rfl) (by kernel_rfl) (by kernel_rfl) (fun _ _ _ h => h) (Or.inl ⟨by rfl, ?hyT19x48⟩) (by exact hS) ?rsT19x48
          case hyT19x48 => (intro w hSw; (try dsimp only at hSw); unfold Rl.SN at hSw; go_simp; try with_reducible rfl)
          try simp only [Act.put, List.setIfInBounds_toArray, List.set_cons_zero, List.set_cons_succ]
          refine wpAnyH_take (i := 48) (oi := { dst := some 90, op := Op.pick (Operand.tmp 83) (Operand.tmp 89) (Operand.const (Value.bool false)), type := 4, pos := "law.go:135", after := #[{ on := 41, ground := Ground.data }, { on := 47, ground := Ground.data }], guard := none }) (v := ?vT19x49) rfl (by kernel_rfl) (by kernel_rfl) (by kernel_rfl) (fun _ _ _ h => h) (Or.inl ⟨by rfl, ?hyT19x49⟩) (by exact hS) ?rsT19x49
          case hyT19x49 => (intro w hSw; (try dsimp only at hSw); unfold Rl.SN at hSw; go_simp; try with_reducible rfl)
          try simp only [Act.put, List.setIfInBounds_toArray, List.set_cons_zero, List.set_cons_succ]
          refine wpAnyH_take (i := 49) (oi := { dst := some 91, op := Op.move (Operand.tmp 90), type := 4, pos := "law.go:135", after := #[{ on := 48, ground := Ground.data }, { on := 44, ground := Ground.chain }], guard := none }) (v := ?vT19x50) rfl (by kernel_rfl) (by kernel_rfl) (by kernel_rfl) (fun _ _ _ h => h) (Or.inl ⟨by rfl, ?hyT19x50⟩) (by exact hS) ?rsT19x50
          case hyT19x50 => (intro w hSw; (try dsimp only at hSw); unfold Rl.SN at hSw; go_simp; try with_reducible rfl)
          try simp only [Act.put, List.setIfInBounds_toArray, List.set_cons_zero, List.set_cons_succ]
          refine wpAnyH_ready (rs := [50]) (by kernel_rfl) (by simp) ?_
          refine (AllReadyH.cons (o := { dst := some 92, op := Op.call { callee := Callee.value (Operand.func 18), args := #[], argTypes := #[] }, type := 4, pos := "law.go:135", after := #[{ on := 49, ground := Ground.chain }, { on := 49, ground := Ground.guard }], guard := some (49, true) }) rfl (fun K hK => ?_) AllReadyH.nil)
          go_simp
          refine (LV.out _).mono ?_
          rintro e yT19x51 ⟨rfl, hq⟩
          try (go_wp2_with fail)
          have hS2 := SQ.out _ (Q.trans (Rl.SN.here hS) hq)
          refine hK.out _ _ (by exact hS2) (fun hHeld => ?_)
          clear hK K hHeld hS hq
          have hS := hS2
          clear hS2
          try simp only [Act.put, List.setIfInBounds_toArray, List.set_cons_zero, List.set_cons_succ]
          refine wpAnyH_take (i := 51) (oi := { dst := some 93, op := Op.pick (Operand.tmp 91) (Operand.tmp 92) (Operand.const (Value.bool false)), type := 4, pos := "law.go:135", after := #[{ on := 49, ground := Ground.data }, { on := 50, ground := Ground.data }], guard := none }) (v := ?vT19x52) rfl (by kernel_rfl) (by kernel_rfl) (by kernel_rfl) (fun _ _ _ h => h) (Or.inl ⟨by rfl, ?hyT19x52⟩) (by exact hS) ?rsT19x52
          case hyT19x52 => (intro w hSw; (try dsimp only at hSw); unfold Rl.SN at hSw; go_simp; try with_reducible rfl)
          try simp only [Act.put, List.setIfInBounds_toArray, List.set_cons_zero, List.set_cons_succ]
          refine wpAnyH_take (i := 52) (oi := { dst := some 4, op := Op.assign (Operand.tmp 93), type := 4, pos := "law.go:135", after := #[{ on := 51, ground := Ground.data }, { on := 50, ground := Ground.chain }, { on := 0, ground := Ground.phase }, { on := 1, ground := Ground.phase }, { on := 2, ground := Ground.phase }, { on := 3, ground := Ground.phase }, { on := 4, ground := Ground.phase }, { on := 5, ground := Ground.phase }, { on := 6, ground := Ground.phase }, { on := 7, ground := Ground.phase }, { on := 8, ground := Ground.phase }, { on := 9, ground := Ground.phase }, { on := 10, ground := Ground.phase }, { on := 11, ground := Ground.phase }, { on := 12, ground := Ground.phase }, { on := 13, ground := Ground.phase }, { on := 14, ground := Ground.phase }, { on := 15, ground := Ground.phase }, { on := 16, ground := Ground.phase }, { on := 17, ground := Ground.phase }, { on := 18, ground := Ground.phase }, { on := 19, ground := Ground.phase }, { on := 20, ground := Ground.phase }, { on := 21, ground := Ground.phase }, { on := 22, ground := Ground.phase }, { on := 23, ground := Ground.phase }, { on := 24, ground := Ground.phase }, { on := 25, ground := Ground.phase }, { on := 26, ground := Ground.phase }, { on := 27, ground := Ground.phase }, { on := 28, ground := Ground.phase }, { on := 29, ground := Ground.phase }, { on := 30, ground := Ground.phase }, { on := 31, ground := Ground.phase }, { on := 32, ground := Ground.phase }, { on := 33, ground := Ground.phase }, { on := 34, ground := Ground.phase }, { on := 35, ground := Ground.phase }, { on := 36, ground := Ground.phase }, { on := 37, ground := Ground.phase }, { on := 38, ground := Ground.phase }, { on := 39, ground := Ground.phase }, { on := 40, ground := Ground.phase }, { on := 41, ground := Ground.phase }, { on := 42, ground := Ground.phase }, { on := 43, ground := Ground.phase }, { on := 44, ground := Ground.phase }, { on := 45, ground := Ground.phase }, { on := 46, ground := Ground.phase }, { on := 47, ground := Ground.phase }, { on := 48, ground := Ground.phase }, { on := 49, ground := Ground.phase }, { on := 50, ground := Ground.phase }, { on := 51, ground := Ground.phase }], guard := none }) (v := ?vT19x53) rfl (by kernel_rfl) (by kernel_rfl) (by kernel_rfl) (fun _ _ _ h => h) (Or.inl ⟨by rfl, ?hyT19x53⟩) (by exact hS) ?rsT19x53
          case hyT19x53 => (intro w hSw; (try dsimp only at hSw); unfold Rl.SN at hSw; go_simp; try with_reducible rfl)
          try simp only [Act.put, List.setIfInBounds_toArray, List.set_cons_zero, List.set_cons_succ]
          refine wpAnyH_done (by kernel_rfl) ?_ _
          have HQE := Lib.hid (Q2.out.trans (Rl.SN.here hS))
          clear hS SQ
          go_wp2_with fail
          go_ret
          exact ⟨rfl, HQE.out⟩
        · have HNX := HN2.out
          rw [Rm.nm_in] at HNX
          have hne := Rm.nm_ne k hk
          generalize Rm.nms.getD k ⟨#[]⟩ = xk at *
          have HNX := Lib.hid HNX
          have hk1 : (k : Int) < 7 := by omega
          have HM2 := Lib.hid H2
          clear H2
          go_wp2_with fail
          refine (HM2.out _).mono ?_
          rintro e z2 ⟨rfl, hq2⟩
          have HB2 := Lib.hid ((Q.block hq2 (lt_of_block HB.out)).trans HB.out)
          have Q2 := Lib.hid (HQ.out.trans hq2)
          clear hq2 HB HQ
          have SQ := Lib.hid (fun u (q : Q z2 u) => (⟨HCM.out u ((Q.block q (lt_of_block HB2.out)).trans HB2.out), q⟩ : Rl.SN z2 w.heap.size m x0 u))
          go_wp2_with fail
          refine wp_region_held_drew (S := fun u => Rl.SN z2 w.heap.size m x0 u) (by kernel_rfl) (by exact SQ.out _ ((Q.refl z2).drew)) (fun hHeld => ?_)
          have hS : Rl.SN z2 w.heap.size m x0 z2.drew := hHeld
          clear hHeld
          generalize z2.drew = yT20x0 at hS ⊢
          refine wpAnyH_take (i := 0) (oi := { dst := some 42, op := Op.move (Operand.tmp 6), type := 3, pos := "law.go:135", after := #[], guard := none }) (v := ?vT20x1) rfl (by kernel_rfl) (by kernel_rfl) (by kernel_rfl) (fun _ _ _ h => h) (Or.inl ⟨by rfl, ?hyT20x1⟩) (by exact hS) ?rsT20x1
          case hyT20x1 => (intro w hSw; (try dsimp only at hSw); unfold Rl.SN at hSw; go_simp; try with_reducible rfl)
          try simp only [Act.put, List.setIfInBounds_toArray, List.set_cons_zero, List.set_cons_succ]
          refine wpAnyH_take (i := 2) (oi := { dst := some 44, op := Op.move (Operand.tmp 5), type := 50, pos := "law.go:135", after := #[], guard := none }) (v := ?vT20x2) rfl (by kernel_rfl) (by kernel_rfl) (by kernel_rfl) (fun _ _ _ h => h) (Or.inl ⟨by rfl, ?hyT20x2⟩) (by exact hS) ?rsT20x2
          case hyT20x2 => (intro w hSw; (try dsimp only at hSw); unfold Rl.SN at hSw; go_simp; try with_reducible rfl)
          try simp only [Act.put, List.setIfInBounds_toArray, List.set_cons_zero, List.set_cons_succ]
          refine wpAnyH_take (i := 3) (oi := { dst := some 45, op := Op.move (Operand.tmp 6), type := 3, pos := "law.go:135", after := #[], guard := none }) (v := ?vT20x3) rfl (by kernel_rfl) (by kernel_rfl) (by kernel_rfl) (fun _ _ _ h => h) (Or.inl ⟨by rfl, ?hyT20x3⟩) (by exact hS) ?rsT20x3
          case hyT20x3 => (intro w hSw; (try dsimp only at hSw); unfold Rl.SN at hSw; go_simp; try with_reducible rfl)
          try simp only [Act.put, List.setIfInBounds_toArray, List.set_cons_zero, List.set_cons_succ]
          refine wpAnyH_take (i := 4) (oi := { dst := some 46, op := Op.indexAddr 50 (Operand.tmp 44) (Operand.tmp 45), type := 0, pos := "law.go:135", after := #[{ on := 2, ground := Ground.data }, { on := 3, ground := Ground.data }], guard := none }) (v := ?vT20x4) rfl (by kernel_rfl) (by kernel_rfl) (by kernel_rfl) (fun _ _ _ h => h) (Or.inl ⟨by rfl, ?hyT20x4⟩) (by exact hS) ?rsT20x4
          case hyT20x4 => (intro w hSw; (try dsimp only at hSw); unfold Rl.SN at hSw; go_simp; try with_reducible rfl)
          try simp only [Act.put, List.setIfInBounds_toArray, List.set_cons_zero, List.set_cons_succ]
          refine wpAnyH_take (i := 5) (oi := { dst := some 47, op := Op.load 9 (Operand.tmp 46), type := 9, pos := "law.go:135", after := #[{ on := 4, ground := Ground.data }], guard := none }) (v := ?vT20x5) rfl (by kernel_rfl) (by kernel_rfl) (by kernel_rfl) (fun _ _ _ h => h) (Or.inl ⟨by rfl, ?hyT20x5⟩) (by exact hS) ?rsT20x5
          case hyT20x5 => (intro w hSw; (try dsimp only at hSw); unfold Rl.SN at hSw; go_simp; try with_reducible rfl)
          try simp only [Act.put, List.setIfInBounds_toArray, List.set_cons_zero, List.set_cons_succ]
          refine wpAnyH_ready (rs := [1]) (by kernel_rfl) (by simp) ?_
          refine (AllReadyH.cons (o := { dst := some 43, op := Op.call { callee := Callee.value (Operand.func 30), args := #[Operand.tmp 42], argTypes := #[3] }, type := 9, pos := "law.go:135", after := #[{ on := 0, ground := Ground.data }], guard := none }) rfl (fun K hK => ?_) AllReadyH.nil)
          go_simp
          refine (HN1.out _).mono ?_
          rintro e yT20x6 ⟨rfl, hq⟩
          try (go_wp2_with fail)
          have hS2 := SQ.out _ (Q.trans (Rl.SN.here hS) hq)
          refine hK.out _ _ (by exact hS2) (fun hHeld => ?_)
          clear hK K hHeld hS hq
          have hS := hS2
          clear hS2
          try simp only [Act.put, List.setIfInBounds_toArray, List.set_cons_zero, List.set_cons_succ]
          refine wpAnyH_take (i := 6) (oi := { dst := some 48, op := Op.binOp BinOp.eql 9 (Operand.tmp 43) (Operand.tmp 47) 9, type := 4, pos := "law.go:135", after := #[{ on := 1, ground := Ground.data }, { on := 5, ground := Ground.data }], guard := none }) (v := ?vT20x7) rfl (by kernel_rfl) (by kernel_rfl) (by kernel_rfl) (fun _ _ _ h => h) (Or.inl ⟨by rfl, ?hyT20x7⟩) (by exact hS) ?rsT20x7
          case hyT20x7 => (intro w hSw; (try dsimp only at hSw); unfold Rl.SN at hSw; go_simp; try with_reducible rfl)
          try simp only [Act.put, List.setIfInBounds_toArray, List.set_cons_zero, List.set_cons_succ]
          refine wpAnyH_take (i := 7) (oi := { dst := some 49, op := Op.move (Operand.tmp 48), type := 4, pos := "law.go:135", after := #[{ on := 6, ground := Ground.data }, { on := 1, ground := Ground.chain }], guard := none }) (v := ?vT20x8) rfl (by kernel_rfl) (by kernel_rfl) (by kernel_rfl) (fun _ _ _ h => h) (Or.inl ⟨by rfl, ?hyT20x8⟩) (by exact hS) ?rsT20x8
          case hyT20x8 => (intro w hSw; (try dsimp only at hSw); unfold Rl.SN at hSw; go_simp; try with_reducible rfl)
          try simp only [Act.put, List.setIfInBounds_toArray, List.set_cons_zero, List.set_cons_succ]
          refine wpAnyH_take (i := 8) (oi := { dst := some 50, op := Op.move (Operand.tmp 7), type := 3, pos := "law.go:135", after := #[{ on := 7, ground := Ground.guard }], guard := some (7, true) }) (v := ?vT20x9) rfl (by kernel_rfl) (by kernel_rfl) (by kernel_rfl) (fun _ _ _ h => h) (Or.inl ⟨by rfl, ?hyT20x9⟩) (by exact hS) ?rsT20x9
          case hyT20x9 => (intro w hSw; (try dsimp only at hSw); unfold Rl.SN at hSw; go_simp; try with_reducible rfl)
          try simp only [Act.put, List.setIfInBounds_toArray, List.set_cons_zero, List.set_cons_succ]
          refine wpAnyH_take (i := 9) (oi := { dst := some 51, op := Op.move (Operand.tmp 6), type := 3, pos := "law.go:135", after := #[{ on := 7, ground := Ground.guard }], guard := some (7, true) }) (v := ?vT20x10) rfl (by kernel_rfl) (by kernel_rfl) (by kernel_rfl) (fun _ _ _ h => h) (Or.inl ⟨by rfl, ?hyT20x10⟩) (by exact hS) ?rsT20x10
          case hyT20x10 => (intro w hSw; (try dsimp only at hSw); unfold Rl.SN at hSw; go_simp; try with_reducible rfl)
          try simp only [Act.put, List.setIfInBounds_toArray, List.set_cons_zero, List.set_cons_succ]
          refine wpAnyH_take (i := 10) (oi := { dst := some 52, op := Op.binOp BinOp.eql 3 (Operand.tmp 50) (Operand.tmp 51) 3, type := 4, pos := "law.go:135", after := #[{ on := 8, ground := Ground.data }, { on := 9, ground := Ground.data }, { on := 7, ground := Ground.guard }], guard := some (7, true) }) (v := ?vT20x11) rfl (by kernel_rfl) (by kernel_rfl) (by kernel_rfl) (fun _ _ _ h => h) (Or.inl ⟨by rfl, ?hyT20x11⟩) (by exact hS) ?rsT20x11
          case hyT20x11 => (intro w hSw; (try dsimp only at hSw); unfold Rl.SN at hSw; go_simp; try with_reducible rfl)
          try simp only [Act.put, List.setIfInBounds_toArray, List.set_cons_zero, List.set_cons_succ]
          refine wpAnyH_take (i := 11) (oi := { dst := some 53, op := Op.pick (Operand.tmp 49) (Operand.tmp 52) (Operand.const (Value.bool false)), type := 4, pos := "law.go:135", after := #[{ on := 7, ground := Ground.data }, { on := 10, ground := Ground.data }], guard := none }) (v := ?vT20x12) rfl (by kernel_rfl) (by kernel_rfl) (by kernel_rfl) (fun _ _ _ h => h) (Or.inl ⟨by rfl, ?hyT20x12⟩) (by exact hS) ?rsT20x12
          case hyT20x12 => (intro w hSw; (try dsimp only at hSw); unfold Rl.SN at hSw; go_simp; try with_reducible rfl)
          try simp only [Act.put, List.setIfInBounds_toArray, List.set_cons_zero, List.set_cons_succ]
          refine wpAnyH_take (i := 12) (oi := { dst := some 54, op := Op.move (Operand.tmp 53), type := 4, pos := "law.go:135", after := #[{ on := 11, ground := Ground.data }, { on := 7, ground := Ground.chain }], guard := none }) (v := ?vT20x13) rfl (by kernel_rfl) (by kernel_rfl) (by kernel_rfl) (fun _ _ _ h => h) (Or.inl ⟨by rfl, ?hyT20x13⟩) (by exact hS) ?rsT20x13
          case hyT20x13 => (intro w hSw; (try dsimp only at hSw); unfold Rl.SN at hSw; go_simp; try with_reducible rfl)
          try simp only [Act.put, List.setIfInBounds_toArray, List.set_cons_zero, List.set_cons_succ]
          refine wpAnyH_take (i := 13) (oi := { dst := some 55, op := Op.move (Operand.tmp 8), type := 28, pos := "law.go:135", after := #[{ on := 12, ground := Ground.guard }], guard := some (12, true) }) (v := ?vT20x14) rfl (by kernel_rfl) (by kernel_rfl) (by kernel_rfl) (fun _ _ _ h => h) (Or.inl ⟨by rfl, ?hyT20x14⟩) (by exact hS) ?rsT20x14
          case hyT20x14 => (intro w hSw; (try dsimp only at hSw); unfold Rl.SN at hSw; go_simp; try with_reducible rfl)
          try simp only [Act.put, List.setIfInBounds_toArray, List.set_cons_zero, List.set_cons_succ]
          refine wpAnyH_take (i := 14) (oi := { dst := some 56, op := Op.binOp BinOp.eql 28 (Operand.tmp 55) (Operand.const (Value.int IntKind.i64 0)) 28, type := 4, pos := "law.go:135", after := #[{ on := 13, ground := Ground.data }, { on := 12, ground := Ground.guard }], guard := some (12, true) }) (v := ?vT20x15) rfl (by kernel_rfl) (by kernel_rfl) (by kernel_rfl) (fun _ _ _ h => h) (Or.inl ⟨by rfl, ?hyT20x15⟩) (by exact hS) ?rsT20x15
          case hyT20x15 => (intro w hSw; (try dsimp only at hSw); unfold Rl.SN at hSw; go_simp; try with_reducible rfl)
          try simp only [Act.put, List.setIfInBounds_toArray, List.set_cons_zero, List.set_cons_succ]
          refine wpAnyH_take (i := 15) (oi := { dst := some 57, op := Op.pick (Operand.tmp 54) (Operand.tmp 56) (Operand.const (Value.bool false)), type := 4, pos := "law.go:135", after := #[{ on := 12, ground := Ground.data }, { on := 14, ground := Ground.data }], guard := none }) (v := ?vT20x16) rfl (by kernel_rfl) (by kernel_rfl) (by kernel_rfl) (fun _ _ _ h => h) (Or.inl ⟨by rfl, ?hyT20x16⟩) (by exact hS) ?rsT20x16
          case hyT20x16 => (intro w hSw; (try dsimp only at hSw); unfold Rl.SN at hSw; go_simp; try with_reducible rfl)
          try simp only [Act.put, List.setIfInBounds_toArray, List.set_cons_zero, List.set_cons_succ]
          refine wpAnyH_take (i := 16) (oi := { dst := some 58, op := Op.move (Operand.tmp 57), type := 4, pos := "law.go:135", after := #[{ on := 15, ground := Ground.data }, { on := 12, ground := Ground.chain }], guard := none }) (v := ?vT20x17) rfl (by kernel_rfl) (by kernel_rfl) (by kernel_rfl) (fun _ _ _ h => h) (Or.inl ⟨by rfl, ?hyT20x17⟩) (by exact hS) ?rsT20x17
          case hyT20x17 => (intro w hSw; (try dsimp only at hSw); unfold Rl.SN at hSw; go_simp; try with_reducible rfl)
          try simp only [Act.put, List.setIfInBounds_toArray, List.set_cons_zero, List.set_cons_succ]
          refine wpAnyH_take (i := 17) (oi := { dst := some 59, op := Op.move (Operand.tmp 0), type := 3, pos := "law.go:135", after := #[{ on := 16, ground := Ground.guard }], guard := some (16, true) }) (v := ?vT20x18) rfl (by kernel_rfl) (by kernel_rfl) (by kernel_rfl) (fun _ _ _ h => h) (Or.inl ⟨by rfl, ?hyT20x18⟩) (by exact hS) ?rsT20x18
          case hyT20x18 => (intro w hSw; (try dsimp only at hSw); unfold Rl.SN at hSw; go_simp; try with_reducible rfl)
          try simp only [Act.put, List.setIfInBounds_toArray, List.set_cons_zero, List.set_cons_succ]
          refine wpAnyH_take (i := 20) (oi := { dst := some 62, op := Op.move (Operand.tmp 0), type := 3, pos := "law.go:135", after := #[{ on := 16, ground := Ground.guard }], guard := some (16, true) }) (v := ?vT20x19) rfl (by kernel_rfl) (by kernel_rfl) (by kernel_rfl) (fun _ _ _ h => h) (Or.inl ⟨by rfl, ?hyT20x19⟩) (by exact hS) ?rsT20x19
          case hyT20x19 => (intro w hSw; (try dsimp only at hSw); unfold Rl.SN at hSw; go_simp; try with_reducible rfl)
          try simp only [Act.put, List.setIfInBounds_toArray, List.set_cons_zero, List.set_cons_succ]
          refine wpAnyH_take (i := 21) (oi := { dst := some 63, op := Op.binOp BinOp.geq 3 (Operand.tmp 62) (Operand.const (Value.int IntKind.i64 0)) 3, type := 4, pos := "law.go:135", after := #[{ on := 20, ground := Ground.data }, { on := 16, ground := Ground.guard }], guard := some (16, true) }) (v := ?vT20x20) rfl (by kernel_rfl) (by kernel_rfl) (by kernel_rfl) (fun _ _ _ h => h) (Or.inl ⟨by rfl, ?hyT20x20⟩) (by exact hS) ?rsT20x20
          case hyT20x20 => (intro w hSw; (try dsimp only at hSw); unfold Rl.SN at hSw; go_simp; try with_reducible rfl)
          try simp only [Act.put, List.setIfInBounds_toArray, List.set_cons_zero, List.set_cons_succ]
          refine wpAnyH_ready (rs := [18]) (by kernel_rfl) (by simp) ?_
          refine (AllReadyH.cons (o := { dst := some 60, op := Op.call { callee := Callee.value (Operand.func 30), args := #[Operand.tmp 59], argTypes := #[3] }, type := 9, pos := "law.go:135", after := #[{ on := 17, ground := Ground.data }, { on := 16, ground := Ground.chain }, { on := 16, ground := Ground.guard }], guard := some (16, true) }) rfl (fun K hK => ?_) AllReadyH.nil)
          go_simp
          refine (HNX.out _).mono ?_
          rintro e yT20x21 ⟨rfl, hq⟩
          try (go_wp2_with fail)
          have hS2 := SQ.out _ (Q.trans (Rl.SN.here hS) hq)
          refine hK.out _ _ (by exact hS2) (fun hHeld => ?_)
          clear hK K hHeld hS hq
          have hS := hS2
          clear hS2
          try simp only [Act.put, List.setIfInBounds_toArray, List.set_cons_zero, List.set_cons_succ]
          refine wpAnyH_take (i := 19) (oi := { dst := some 61, op := Op.binOp BinOp.neq 9 (Operand.tmp 60) (Operand.const (Value.string { data := #[] })) 9, type := 4, pos := "law.go:135", after := #[{ on := 18, ground := Ground.data }, { on := 16, ground := Ground.guard }], guard := some (16, true) }) (v := ?vT20x22) rfl (by kernel_rfl) (by kernel_rfl) (by kernel_rfl) (fun _ _ _ h => h) (Or.inl ⟨by rfl, ?hyT20x22⟩) (by exact hS) ?rsT20x22
          case hyT20x22 => (intro w hSw; (try dsimp only at hSw); unfold Rl.SN at hSw; go_simp; try with_reducible rfl)
          try simp only [Act.put, List.setIfInBounds_toArray, List.set_cons_zero, List.set_cons_succ]
          refine wpAnyH_take (i := 22) (oi := { dst := some 64, op := Op.move (Operand.tmp 63), type := 4, pos := "law.go:135", after := #[{ on := 21, ground := Ground.data }, { on := 18, ground := Ground.chain }, { on := 16, ground := Ground.guard }], guard := some (16, true) }) (v := ?vT20x23) rfl (by kernel_rfl) (by kernel_rfl) (by kernel_rfl) (fun _ _ _ h => h) (Or.inl ⟨by rfl, ?hyT20x23⟩) (by exact hS) ?rsT20x23
          case hyT20x23 => (intro w hSw; (try dsimp only at hSw); unfold Rl.SN at hSw; go_simp; try with_reducible rfl)
          try simp only [Act.put, List.setIfInBounds_toArray, List.set_cons_zero, List.set_cons_succ]
          refine wpAnyH_take (i := 23) (oi := { dst := some 65, op := Op.move (Operand.tmp 0), type := 3, pos := "law.go:135", after := #[{ on := 22, ground := Ground.guard }], guard := some (22, true) }) (v := ?vT20x24) rfl (by kernel_rfl) (by kernel_rfl) (by kernel_rfl) (fun _ _ _ h => h) (Or.inl ⟨by rfl, ?hyT20x24⟩) (by exact hS) ?rsT20x24
          case hyT20x24 => (intro w hSw; (try dsimp only at hSw); unfold Rl.SN at hSw; go_simp; try with_reducible rfl)
          try simp only [Act.put, List.setIfInBounds_toArray, List.set_cons_zero, List.set_cons_succ]
          refine wpAnyH_take (i := 24) (oi := { dst := some 66, op := Op.binOp BinOp.lss 3 (Operand.tmp 65) (Operand.const (Value.int IntKind.i64 7)) 3, type := 4, pos := "law.go:135", after := #[{ on := 23, ground := Ground.data }, { on := 22, ground := Ground.guard }], guard := some (22, true) }) (v := ?vT20x25) rfl (by kernel_rfl) (by kernel_rfl) (by kernel_rfl) (fun _ _ _ h => h) (Or.inl ⟨by rfl, ?hyT20x25⟩) (by exact hS) ?rsT20x25
          case hyT20x25 => (intro w hSw; (try dsimp only at hSw); unfold Rl.SN at hSw; go_simp; try with_reducible rfl)
          try simp only [Act.put, List.setIfInBounds_toArray, List.set_cons_zero, List.set_cons_succ]
          refine wpAnyH_take (i := 25) (oi := { dst := some 67, op := Op.pick (Operand.tmp 64) (Operand.tmp 66) (Operand.const (Value.bool false)), type := 4, pos := "law.go:135", after := #[{ on := 22, ground := Ground.data }, { on := 24, ground := Ground.data }, { on := 16, ground := Ground.guard }], guard := some (16, true) }) (v := ?vT20x26) rfl (by kernel_rfl) (by kernel_rfl) (by kernel_rfl) (fun _ _ _ h => h) (Or.inl ⟨by rfl, ?hyT20x26⟩) (by exact hS) ?rsT20x26
          case hyT20x26 => (intro w hSw; (try dsimp only at hSw); unfold Rl.SN at hSw; go_simp; try with_reducible rfl)
          try simp only [Act.put, List.setIfInBounds_toArray, List.set_cons_zero, List.set_cons_succ]
          refine wpAnyH_take (i := 26) (oi := { dst := some 68, op := Op.binOp BinOp.eql 4 (Operand.tmp 61) (Operand.tmp 67) 4, type := 4, pos := "law.go:135", after := #[{ on := 19, ground := Ground.data }, { on := 25, ground := Ground.data }, { on := 16, ground := Ground.guard }], guard := some (16, true) }) (v := ?vT20x27) rfl (by kernel_rfl) (by kernel_rfl) (by kernel_rfl) (fun _ _ _ h => h) (Or.inl ⟨by rfl, ?hyT20x27⟩) (by exact hS) ?rsT20x27
          case hyT20x27 => (intro w hSw; (try dsimp only at hSw); unfold Rl.SN at hSw; go_simp; try with_reducible rfl)
          try simp only [Act.put, List.setIfInBounds_toArray, List.set_cons_zero, List.set_cons_succ]
          refine wpAnyH_take (i := 27) (oi := { dst := some 69, op := Op.pick (Operand.tmp 58) (Operand.tmp 68) (Operand.const (Value.bool false)), type := 4, pos := "law.go:135", after := #[{ on := 16, ground := Ground.data }, { on := 26, ground := Ground.data }], guard := none }) (v := ?vT20x28) rfl (by kernel_rfl) (by kernel_rfl) (by kernel_rfl) (fun _ _ _ h => h) (Or.inl ⟨by rfl, ?hyT20x28⟩) (by exact hS) ?rsT20x28
          case hyT20x28 => (intro w hSw; (try dsimp only at hSw); unfold Rl.SN at hSw; go_simp; try with_reducible rfl)
          try simp only [Act.put, List.setIfInBounds_toArray, List.set_cons_zero, List.set_cons_succ]
          refine wpAnyH_take (i := 28) (oi := { dst := some 70, op := Op.move (Operand.tmp 69), type := 4, pos := "law.go:135", after := #[{ on := 27, ground := Ground.data }, { on := 22, ground := Ground.chain }], guard := none }) (v := ?vT20x29) rfl (by kernel_rfl) (by kernel_rfl) (by kernel_rfl) (fun _ _ _ h => h) (Or.inl ⟨by rfl, ?hyT20x29⟩) (by exact hS) ?rsT20x29
          case hyT20x29 => (intro w hSw; (try dsimp only at hSw); unfold Rl.SN at hSw; go_simp; try with_reducible rfl)
          try simp only [Act.put, List.setIfInBounds_toArray, List.set_cons_zero, List.set_cons_succ]
          refine wpAnyH_take (i := 29) (oi := { dst := some 71, op := Op.move (Operand.tmp 12), type := 28, pos := "law.go:135", after := #[{ on := 28, ground := Ground.guard }], guard := some (28, true) }) (v := ?vT20x30) rfl (by kernel_rfl) (by kernel_rfl) (by kernel_rfl) (fun _ _ _ h => h) (Or.inl ⟨by rfl, ?hyT20x30⟩) (by exact hS) ?rsT20x30
          case hyT20x30 => (intro w hSw; (try dsimp only at hSw); unfold Rl.SN at hSw; go_simp; try with_reducible rfl)
          try simp only [Act.put, List.setIfInBounds_toArray, List.set_cons_zero, List.set_cons_succ]
          refine wpAnyH_take (i := 30) (oi := { dst := some 72, op := Op.binOp BinOp.eql 28 (Operand.tmp 71) (Operand.const (Value.int IntKind.i64 0)) 28, type := 4, pos := "law.go:135", after := #[{ on := 29, ground := Ground.data }, { on := 28, ground := Ground.guard }], guard := some (28, true) }) (v := ?vT20x31) rfl (by kernel_rfl) (by kernel_rfl) (by kernel_rfl) (fun _ _ _ h => h) (Or.inl ⟨by rfl, ?hyT20x31⟩) (by exact hS) ?rsT20x31
          case hyT20x31 => (intro w hSw; (try dsimp only at hSw); unfold Rl.SN at hSw; go_simp; try with_reducible rfl)
          try simp only [Act.put, List.setIfInBounds_toArray, List.set_cons_zero, List.set_cons_succ]
          refine wpAnyH_take (i := 31) (oi := { dst := some 73, op := Op.move (Operand.tmp 9), type := 3, pos := "law.go:135", after := #[{ on := 28, ground := Ground.guard }], guard := some (28, true) }) (v := ?vT20x32) rfl (by kernel_rfl) (by kernel_rfl) (by kernel_rfl) (fun _ _ _ h => h) (Or.inl ⟨by rfl, ?hyT20x32⟩) (by exact hS) ?rsT20x32
          case hyT20x32 => (intro w hSw; (try dsimp only at hSw); unfold Rl.SN at hSw; go_simp; try with_reducible rfl)
          try simp only [Act.put, List.setIfInBounds_toArray, List.set_cons_zero, List.set_cons_succ]
          refine wpAnyH_take (i := 32) (oi := { dst := some 74, op := Op.binOp BinOp.geq 3 (Operand.tmp 73) (Operand.const (Value.int IntKind.i64 0)) 3, type := 4, pos := "law.go:135", after := #[{ on := 31, ground := Ground.data }, { on := 28, ground := Ground.guard }], guard := some (28, true) }) (v := ?vT20x33) rfl (by kernel_rfl) (by kernel_rfl) (by kernel_rfl) (fun _ _ _ h => h) (Or.inl ⟨by rfl, ?hyT20x33⟩) (by exact hS) ?rsT20x33
          case hyT20x33 => (intro w hSw; (try dsimp only at hSw); unfold Rl.SN at hSw; go_simp; try with_reducible rfl)
          try simp only [Act.put, List.setIfInBounds_toArray, List.set_cons_zero, List.set_cons_succ]
          refine wpAnyH_take (i := 33) (oi := { dst := some 75, op := Op.binOp BinOp.eql 4 (Operand.tmp 72) (Operand.tmp 74) 4, type := 4, pos := "law.go:135", after := #[{ on := 30, ground := Ground.data }, { on := 32, ground := Ground.data }, { on := 28, ground := Ground.guard }], guard := some (28, true) }) (v := ?vT20x34) rfl (by kernel_rfl) (by kernel_rfl) (by kernel_rfl) (fun _ _ _ h => h) (Or.inl ⟨by rfl, ?hyT20x34⟩) (by exact hS) ?rsT20x34
          case hyT20x34 => (intro w hSw; (try dsimp only at hSw); unfold Rl.SN at hSw; go_simp; try with_reducible rfl)
          try simp only [Act.put, List.setIfInBounds_toArray, List.set_cons_zero, List.set_cons_succ]
          refine wpAnyH_take (i := 34) (oi := { dst := some 76, op := Op.pick (Operand.tmp 70) (Operand.tmp 75) (Operand.const (Value.bool false)), type := 4, pos := "law.go:135", after := #[{ on := 28, ground := Ground.data }, { on := 33, ground := Ground.data }], guard := none }) (v := ?vT20x35) rfl (by kernel_rfl) (by kernel_rfl) (by kernel_rfl) (fun _ _ _ h => h) (Or.inl ⟨by rfl, ?hyT20x35⟩) (by exact hS) ?rsT20x35
          case hyT20x35 => (intro w hSw; (try dsimp only at hSw); unfold Rl.SN at hSw; go_simp; try with_reducible rfl)
          try simp only [Act.put, List.setIfInBounds_toArray, List.set_cons_zero, List.set_cons_succ]
          refine wpAnyH_take (i := 35) (oi := { dst := some 77, op := Op.move (Operand.tmp 76), type := 4, pos := "law.go:135", after := #[{ on := 34, ground := Ground.data }, { on := 28, ground := Ground.chain }], guard := none }) (v := ?vT20x36) rfl (by kernel_rfl) (by kernel_rfl) (by kernel_rfl) (fun _ _ _ h => h) (Or.inl ⟨by rfl, ?hyT20x36⟩) (by exact hS) ?rsT20x36
          case hyT20x36 => (intro w hSw; (try dsimp only at hSw); unfold Rl.SN at hSw; go_simp; try with_reducible rfl)
          try simp only [Act.put, List.setIfInBounds_toArray, List.set_cons_zero, List.set_cons_succ]
          refine wpAnyH_take (i := 36) (oi := { dst := some 78, op := Op.move (Operand.tmp 11), type := 3, pos := "law.go:135", after := #[{ on := 35, ground := Ground.guard }], guard := some (35, true) }) (v := ?vT20x37) rfl (by kernel_rfl) (by kernel_rfl) (by kernel_rfl) (fun _ _ _ h => h) (Or.inl ⟨by rfl, ?hyT20x37⟩) (by exact hS) ?rsT20x37
          case hyT20x37 => (intro w hSw; (try dsimp only at hSw); unfold Rl.SN at hSw; go_simp; try with_reducible rfl)
          try simp only [Act.put, List.setIfInBounds_toArray, List.set_cons_zero, List.set_cons_succ]
          refine wpAnyH_take (i := 37) (oi := { dst := some 79, op := Op.move (Operand.tmp 9), type := 3, pos := "law.go:135", after := #[{ on := 35, ground := Ground.guard }], guard := some (35, true) }) (v := ?vT20x38) rfl (by kernel_rfl) (by kernel_rfl) (by kernel_rfl) (fun _ _ _ h => h) (Or.inl ⟨by rfl, ?hyT20x38⟩) (by exact hS) ?rsT20x38
          case hyT20x38 => (intro w hSw; (try dsimp only at hSw); unfold Rl.SN at hSw; go_simp; try with_reducible rfl)
          try simp only [Act.put, List.setIfInBounds_toArray, List.set_cons_zero, List.set_cons_succ]
          refine wpAnyH_take (i := 38) (oi := { dst := some 80, op := Op.call { callee := Callee.builtin Builtin.max, args := #[Operand.tmp 79, Operand.const (Value.int IntKind.i64 0)], argTypes := #[3, 3] }, type := 3, pos := "law.go:135", after := #[{ on := 37, ground := Ground.data }, { on := 35, ground := Ground.guard }], guard := some (35, true) }) (v := ?vT20x39) rfl (by kernel_rfl) (by kernel_rfl) (by kernel_rfl) (fun _ _ _ h => h) (Or.inl ⟨by rfl, ?hyT20x39⟩) (by exact hS) ?rsT20x39
          case hyT20x39 => (intro w hSw; (try dsimp only at hSw); unfold Rl.SN at hSw; go_simp; try with_reducible rfl)
          try simp only [Act.put, List.setIfInBounds_toArray, List.set_cons_zero, List.set_cons_succ]
          refine wpAnyH_take (i := 39) (oi := { dst := some 81, op := Op.binOp BinOp.eql 3 (Operand.tmp 78) (Operand.tmp 80) 3, type := 4, pos := "law.go:135", after := #[{ on := 36, ground := Ground.data }, { on := 38, ground := Ground.data }, { on := 35, ground := Ground.guard }], guard := some (35, true) }) (v := ?vT20x40) rfl (by kernel_rfl) (by kernel_rfl) (by kernel_rfl) (fun _ _ _ h => h) (Or.inl ⟨by rfl, ?hyT20x40⟩) (by exact hS) ?rsT20x40
          case hyT20x40 => (intro w hSw; (try dsimp only at hSw); unfold Rl.SN at hSw; go_simp; try with_reducible rfl)
          try simp only [Act.put, List.setIfInBounds_toArray, List.set_cons_zero, List.set_cons_succ]
          refine wpAnyH_take (i := 40) (oi := { dst := some 82, op := Op.pick (Operand.tmp 77) (Operand.tmp 81) (Operand.const (Value.bool false)), type := 4, pos := "law.go:135", after := #[{ on := 35, ground := Ground.data }, { on := 39, ground := Ground.data }], guard := none }) (v := ?vT20x41) rfl (by kernel_rfl) (by kernel_rfl) (by kernel_rfl) (fun _ _ _ h => h) (Or.inl ⟨by rfl, ?hyT20x41⟩) (by exact hS) ?rsT20x41
          case hyT20x41 => (intro w hSw; (try dsimp only at hSw); unfold Rl.SN at hSw; go_simp; try with_reducible rfl)
          try simp only [Act.put, List.setIfInBounds_toArray, List.set_cons_zero, List.set_cons_succ]
          refine wpAnyH_take (i := 41) (oi := { dst := some 83, op := Op.move (Operand.tmp 82), type := 4, pos := "law.go:135", after := #[{ on := 40, ground := Ground.data }, { on := 35, ground := Ground.chain }], guard := none }) (v := ?vT20x42) rfl (by kernel_rfl) (by kernel_rfl) (by kernel_rfl) (fun _ _ _ h => h) (Or.inl ⟨by rfl, ?hyT20x42⟩) (by exact hS) ?rsT20x42
          case hyT20x42 => (intro w hSw; (try dsimp only at hSw); unfold Rl.SN at hSw; go_simp; try with_reducible rfl)
          try simp only [Act.put, List.setIfInBounds_toArray, List.set_cons_zero, List.set_cons_succ]
          refine wpAnyH_take (i := 42) (oi := { dst := some 84, op := Op.move (Operand.tmp 9), type := 3, pos := "law.go:135", after := #[{ on := 41, ground := Ground.guard }], guard := some (41, true) }) (v := ?vT20x43) rfl (by kernel_rfl) (by kernel_rfl) (by kernel_rfl) (fun _ _ _ h => h) (Or.inl ⟨by rfl, ?hyT20x43⟩) (by exact hS) ?rsT20x43
          case hyT20x43 => (intro w hSw; (try dsimp only at hSw); unfold Rl.SN at hSw; go_simp; try with_reducible rfl)
          try simp only [Act.put, List.setIfInBounds_toArray, List.set_cons_zero, List.set_cons_succ]
          refine wpAnyH_take (i := 43) (oi := { dst := some 85, op := Op.binOp BinOp.geq 3 (Operand.tmp 84) (Operand.const (Value.int IntKind.i64 0)) 3, type := 4, pos := "law.go:135", after := #[{ on := 42, ground := Ground.data }, { on := 41, ground := Ground.guard }], guard := some (41, true) }) (v := ?vT20x44) rfl (by kernel_rfl) (by kernel_rfl) (by kernel_rfl) (fun _ _ _ h => h) (Or.inl ⟨by rfl, ?hyT20x44⟩) (by exact hS) ?rsT20x44
          case hyT20x44 => (intro w hSw; (try dsimp only at hSw); unfold Rl.SN at hSw; go_simp; try with_reducible rfl)
          try simp only [Act.put, List.setIfInBounds_toArray, List.set_cons_zero, List.set_cons_succ]
          refine wpAnyH_take (i := 44) (oi := { dst := some 86, op := Op.move (Operand.tmp 85), type := 4, pos := "law.go:135", after := #[{ on := 43, ground := Ground.data }, { on := 41, ground := Ground.chain }, { on := 41, ground := Ground.guard }], guard := some (41, true) }) (v := ?vT20x45) rfl (by kernel_rfl) (by kernel_rfl) (by kernel_rfl) (fun _ _ _ h => h) (Or.inl ⟨by rfl, ?hyT20x45⟩) (by exact hS) ?rsT20x45
          case hyT20x45 => (intro w hSw; (try dsimp only at hSw); unfold Rl.SN at hSw; go_simp; try with_reducible rfl)
          try simp only [Act.put, List.setIfInBounds_toArray, List.set_cons_zero, List.set_cons_succ]
          refine wpAnyH_take (i := 45) (oi := { dst := some 87, op := Op.move (Operand.tmp 12), type := 28, pos := "law.go:135", after := #[{ on := 44, ground := Ground.guard }], guard := some (44, false) }) (v := undef) rfl (by kernel_rfl) (by kernel_rfl) (by kernel_rfl) (fun _ _ _ h => h) (Or.inr ⟨by rfl, rfl⟩) (by exact hS) ?_
          try simp only [Act.put, List.setIfInBounds_toArray, List.set_cons_zero, List.set_cons_succ]
          refine wpAnyH_take (i := 46) (oi := { dst := some 88, op := Op.binOp BinOp.eql 28 (Operand.tmp 87) (Operand.const (Value.int IntKind.i64 7)) 28, type := 4, pos := "law.go:135", after := #[{ on := 45, ground := Ground.data }, { on := 44, ground := Ground.guard }], guard := some (44, false) }) (v := undef) rfl (by kernel_rfl) (by kernel_rfl) (by kernel_rfl) (fun _ _ _ h => h) (Or.inr ⟨by rfl, rfl⟩) (by exact hS) ?_
          try simp only [Act.put, List.setIfInBounds_toArray, List.set_cons_zero, List.set_cons_succ]
          refine wpAnyH_take (i := 47) (oi := { dst := some 89, op := Op.pick (Operand.tmp 86) (Operand.const (Value.bool true)) (Operand.tmp 88), type := 4, pos := "law.go:135", after := #[{ on := 44, ground := Ground.data }, { on := 46, ground := Ground.data }, { on := 41, ground := Ground.guard }], guard := some (41, true) }) (v := ?vT20x48) rfl (by kernel_rfl) (by kernel_rfl) (by kernel_rfl) (fun _ _ _ h => h) (Or.inl ⟨by rfl, ?hyT20x48⟩) (by exact hS) ?rsT20x48
          case hyT20x48 => (intro w hSw; (try dsimp only at hSw); unfold Rl.SN at hSw; go_simp; try with_reducible rfl)
          try simp only [Act.put, List.setIfInBounds_toArray, List.set_cons_zero, List.set_cons_succ]
          refine wpAnyH_take (i := 48) (oi := { dst := some 90, op := Op.pick (Operand.tmp 83) (Operand.tmp 89) (Operand.const (Value.bool false)), type := 4, pos := "law.go:135", after := #[{ on := 41, ground := Ground.data }, { on := 47, ground := Ground.data }], guard := none }) (v := ?vT20x49) rfl (by kernel_rfl) (by kernel_rfl) (by kernel_rfl) (fun _ _ _ h => h) (Or.inl ⟨by rfl, ?hyT20x49⟩) (by exact hS) ?rsT20x49
          case hyT20x49 => (intro w hSw; (try dsimp only at hSw); unfold Rl.SN at hSw; go_simp; try with_reducible rfl)
          try simp only [Act.put, List.setIfInBounds_toArray, List.set_cons_zero, List.set_cons_succ]
          refine wpAnyH_take (i := 49) (oi := { dst := some 91, op := Op.move (Operand.tmp 90), type := 4, pos := "law.go:135", after := #[{ on := 48, ground := Ground.data }, { on := 44, ground := Ground.chain }], guard := none }) (v := ?vT20x50) rfl (by kernel_rfl) (by kernel_rfl) (by kernel_rfl) (fun _ _ _ h => h) (Or.inl ⟨by rfl, ?hyT20x50⟩) (by exact hS) ?rsT20x50
          case hyT20x50 => (intro w hSw; (try dsimp only at hSw); unfold Rl.SN at hSw; go_simp; try with_reducible rfl)
          try simp only [Act.put, List.setIfInBounds_toArray, List.set_cons_zero, List.set_cons_succ]
          refine wpAnyH_ready (rs := [50]) (by kernel_rfl) (by simp) ?_
          refine (AllReadyH.cons (o := { dst := some 92, op := Op.call { callee := Callee.value (Operand.func 18), args := #[], argTypes := #[] }, type := 4, pos := "law.go:135", after := #[{ on := 49, ground := Ground.chain }, { on := 49, ground := Ground.guard }], guard := some (49, true) }) rfl (fun K hK => ?_) AllReadyH.nil)
          go_simp
          refine (LV.out _).mono ?_
          rintro e yT20x51 ⟨rfl, hq⟩
          try (go_wp2_with fail)
          have hS2 := SQ.out _ (Q.trans (Rl.SN.here hS) hq)
          refine hK.out _ _ (by exact hS2) (fun hHeld => ?_)
          clear hK K hHeld hS hq
          have hS := hS2
          clear hS2
          try simp only [Act.put, List.setIfInBounds_toArray, List.set_cons_zero, List.set_cons_succ]
          refine wpAnyH_take (i := 51) (oi := { dst := some 93, op := Op.pick (Operand.tmp 91) (Operand.tmp 92) (Operand.const (Value.bool false)), type := 4, pos := "law.go:135", after := #[{ on := 49, ground := Ground.data }, { on := 50, ground := Ground.data }], guard := none }) (v := ?vT20x52) rfl (by kernel_rfl) (by kernel_rfl) (by kernel_rfl) (fun _ _ _ h => h) (Or.inl ⟨by rfl, ?hyT20x52⟩) (by exact hS) ?rsT20x52
          case hyT20x52 => (intro w hSw; (try dsimp only at hSw); unfold Rl.SN at hSw; go_simp; try with_reducible rfl)
          try simp only [Act.put, List.setIfInBounds_toArray, List.set_cons_zero, List.set_cons_succ]
          refine wpAnyH_take (i := 52) (oi := { dst := some 4, op := Op.assign (Operand.tmp 93), type := 4, pos := "law.go:135", after := #[{ on := 51, ground := Ground.data }, { on := 50, ground := Ground.chain }, { on := 0, ground := Ground.phase }, { on := 1, ground := Ground.phase }, { on := 2, ground := Ground.phase }, { on := 3, ground := Ground.phase }, { on := 4, ground := Ground.phase }, { on := 5, ground := Ground.phase }, { on := 6, ground := Ground.phase }, { on := 7, ground := Ground.phase }, { on := 8, ground := Ground.phase }, { on := 9, ground := Ground.phase }, { on := 10, ground := Ground.phase }, { on := 11, ground := Ground.phase }, { on := 12, ground := Ground.phase }, { on := 13, ground := Ground.phase }, { on := 14, ground := Ground.phase }, { on := 15, ground := Ground.phase }, { on := 16, ground := Ground.phase }, { on := 17, ground := Ground.phase }, { on := 18, ground := Ground.phase }, { on := 19, ground := Ground.phase }, { on := 20, ground := Ground.phase }, { on := 21, ground := Ground.phase }, { on := 22, ground := Ground.phase }, { on := 23, ground := Ground.phase }, { on := 24, ground := Ground.phase }, { on := 25, ground := Ground.phase }, { on := 26, ground := Ground.phase }, { on := 27, ground := Ground.phase }, { on := 28, ground := Ground.phase }, { on := 29, ground := Ground.phase }, { on := 30, ground := Ground.phase }, { on := 31, ground := Ground.phase }, { on := 32, ground := Ground.phase }, { on := 33, ground := Ground.phase }, { on := 34, ground := Ground.phase }, { on := 35, ground := Ground.phase }, { on := 36, ground := Ground.phase }, { on := 37, ground := Ground.phase }, { on := 38, ground := Ground.phase }, { on := 39, ground := Ground.phase }, { on := 40, ground := Ground.phase }, { on := 41, ground := Ground.phase }, { on := 42, ground := Ground.phase }, { on := 43, ground := Ground.phase }, { on := 44, ground := Ground.phase }, { on := 45, ground := Ground.phase }, { on := 46, ground := Ground.phase }, { on := 47, ground := Ground.phase }, { on := 48, ground := Ground.phase }, { on := 49, ground := Ground.phase }, { on := 50, ground := Ground.phase }, { on := 51, ground := Ground.phase }], guard := none }) (v := ?vT20x53) rfl (by kernel_rfl) (by kernel_rfl) (by kernel_rfl) (fun _ _ _ h => h) (Or.inl ⟨by rfl, ?hyT20x53⟩) (by exact hS) ?rsT20x53
          case hyT20x53 => (intro w hSw; (try dsimp only at hSw); unfold Rl.SN at hSw; go_simp; try with_reducible rfl)
          try simp only [Act.put, List.setIfInBounds_toArray, List.set_cons_zero, List.set_cons_succ]
          refine wpAnyH_done (by kernel_rfl) ?_ _
          have HQE := Lib.hid (Q2.out.trans (Rl.SN.here hS))
          clear hS SQ
          go_wp2_with fail
          go_ret
          exact ⟨rfl, HQE.out⟩
        · have HNX := HN2.out
          rw [Rm.nm_out a0 (.inr hn)] at HNX
          have HNX := Lib.hid HNX
          have hn1 : (0 : Int) ≤ a0 := by omega
          have hn2 : ¬ a0 < 7 := by omega
          have hn3 : decide (a0 < (7 : Int)) = false := by simp; omega
          have HM2 := Lib.hid H2
          clear H2
          go_wp2_with fail
          refine (HM2.out _).mono ?_
          rintro e z2 ⟨rfl, hq2⟩
          have HB2 := Lib.hid ((Q.block hq2 (lt_of_block HB.out)).trans HB.out)
          have Q2 := Lib.hid (HQ.out.trans hq2)
          clear hq2 HB HQ
          have SQ := Lib.hid (fun u (q : Q z2 u) => (⟨HCM.out u ((Q.block q (lt_of_block HB2.out)).trans HB2.out), q⟩ : Rl.SN z2 w.heap.size m x0 u))
          go_wp2_with fail
          refine wp_region_held_drew (S := fun u => Rl.SN z2 w.heap.size m x0 u) (by kernel_rfl) (by exact SQ.out _ ((Q.refl z2).drew)) (fun hHeld => ?_)
          have hS : Rl.SN z2 w.heap.size m x0 z2.drew := hHeld
          clear hHeld
          generalize z2.drew = yT21x0 at hS ⊢
          refine wpAnyH_take (i := 0) (oi := { dst := some 42, op := Op.move (Operand.tmp 6), type := 3, pos := "law.go:135", after := #[], guard := none }) (v := ?vT21x1) rfl (by kernel_rfl) (by kernel_rfl) (by kernel_rfl) (fun _ _ _ h => h) (Or.inl ⟨by rfl, ?hyT21x1⟩) (by exact hS) ?rsT21x1
          case hyT21x1 => (intro w hSw; (try dsimp only at hSw); unfold Rl.SN at hSw; go_simp; try with_reducible rfl)
          try simp only [Act.put, List.setIfInBounds_toArray, List.set_cons_zero, List.set_cons_succ]
          refine wpAnyH_take (i := 2) (oi := { dst := some 44, op := Op.move (Operand.tmp 5), type := 50, pos := "law.go:135", after := #[], guard := none }) (v := ?vT21x2) rfl (by kernel_rfl) (by kernel_rfl) (by kernel_rfl) (fun _ _ _ h => h) (Or.inl ⟨by rfl, ?hyT21x2⟩) (by exact hS) ?rsT21x2
          case hyT21x2 => (intro w hSw; (try dsimp only at hSw); unfold Rl.SN at hSw; go_simp; try with_reducible rfl)
          try simp only [Act.put, List.setIfInBounds_toArray, List.set_cons_zero, List.set_cons_succ]
          refine wpAnyH_take (i := 3) (oi := { dst := some 45, op := Op.move (Operand.tmp 6), type := 3, pos := "law.go:135", after := #[], guard := none }) (v := ?vT21x3) rfl (by kernel_rfl) (by kernel_rfl) (by kernel_rfl) (fun _ _ _ h => h) (Or.inl ⟨by rfl, ?hyT21x3⟩) (by exact hS) ?rsT21x3
          case hyT21x3 => (intro w hSw; (try dsimp only at hSw); unfold Rl.SN at hSw; go_simp; try with_reducible rfl)
          try simp only [Act.put, List.setIfInBounds_toArray, List.set_cons_zero, List.set_cons_succ]
          refine wpAnyH_take (i := 4) (oi := { dst := some 46, op := Op.indexAddr 50 (Operand.tmp 44) (Operand.tmp 45), type := 0, pos := "law.go:135", after := #[{ on := 2, ground := Ground.data }, { on := 3, ground := Ground.data }], guard := none }) (v := ?vT21x4) rfl (by kernel_rfl) (by kernel_rfl) (by kernel_rfl) (fun _ _ _ h => h) (Or.inl ⟨by rfl, ?hyT21x4⟩) (by exact hS) ?rsT21x4
          case hyT21x4 => (intro w hSw; (try dsimp only at hSw); unfold Rl.SN at hSw; go_simp; try with_reducible rfl)
          try simp only [Act.put, List.setIfInBounds_toArray, List.set_cons_zero, List.set_cons_succ]
          refine wpAnyH_take (i := 5) (oi := { dst := some 47, op := Op.load 9 (Operand.tmp 46), type := 9, pos := "law.go:135", after := #[{ on := 4, ground := Ground.data }], guard := none }) (v := ?vT21x5) rfl (by kernel_rfl) (by kernel_rfl) (by kernel_rfl) (fun _ _ _ h => h) (Or.inl ⟨by rfl, ?hyT21x5⟩) (by exact hS) ?rsT21x5
          case hyT21x5 => (intro w hSw; (try dsimp only at hSw); unfold Rl.SN at hSw; go_simp; try with_reducible rfl)
          try simp only [Act.put, List.setIfInBounds_toArray, List.set_cons_zero, List.set_cons_succ]
          refine wpAnyH_ready (rs := [1]) (by kernel_rfl) (by simp) ?_
          refine (AllReadyH.cons (o := { dst := some 43, op := Op.call { callee := Callee.value (Operand.func 30), args := #[Operand.tmp 42], argTypes := #[3] }, type := 9, pos := "law.go:135", after := #[{ on := 0, ground := Ground.data }], guard := none }) rfl (fun K hK => ?_) AllReadyH.nil)
          go_simp
          refine (HN1.out _).mono ?_
          rintro e yT21x6 ⟨rfl, hq⟩
          try (go_wp2_with fail)
          have hS2 := SQ.out _ (Q.trans (Rl.SN.here hS) hq)
          refine hK.out _ _ (by exact hS2) (fun hHeld => ?_)
          clear hK K hHeld hS hq
          have hS := hS2
          clear hS2
          try simp only [Act.put, List.setIfInBounds_toArray, List.set_cons_zero, List.set_cons_succ]
          refine wpAnyH_take (i := 6) (oi := { dst := some 48, op := Op.binOp BinOp.eql 9 (Operand.tmp 43) (Operand.tmp 47) 9, type := 4, pos := "law.go:135", after := #[{ on := 1, ground := Ground.data }, { on := 5, ground := Ground.data }], guard := none }) (v := ?vT21x7) rfl (by kernel_rfl) (by kernel_rfl) (by kernel_rfl) (fun _ _ _ h => h) (Or.inl ⟨by rfl, ?hyT21x7⟩) (by exact hS) ?rsT21x7
          case hyT21x7 => (intro w hSw; (try dsimp only at hSw); unfold Rl.SN at hSw; go_simp; try with_reducible rfl)
          try simp only [Act.put, List.setIfInBounds_toArray, List.set_cons_zero, List.set_cons_succ]
          refine wpAnyH_take (i := 7) (oi := { dst := some 49, op := Op.move (Operand.tmp 48), type := 4, pos := "law.go:135", after := #[{ on := 6, ground := Ground.data }, { on := 1, ground := Ground.chain }], guard := none }) (v := ?vT21x8) rfl (by kernel_rfl) (by kernel_rfl) (by kernel_rfl) (fun _ _ _ h => h) (Or.inl ⟨by rfl, ?hyT21x8⟩) (by exact hS) ?rsT21x8
          case hyT21x8 => (intro w hSw; (try dsimp only at hSw); unfold Rl.SN at hSw; go_simp; try with_reducible rfl)
          try simp only [Act.put, List.setIfInBounds_toArray, List.set_cons_zero, List.set_cons_succ]
          refine wpAnyH_take (i := 8) (oi := { dst := some 50, op := Op.move (Operand.tmp 7), type := 3, pos := "law.go:135", after := #[{ on := 7, ground := Ground.guard }], guard := some (7, true) }) (v := ?vT21x9) rfl (by kernel_rfl) (by kernel_rfl) (by kernel_rfl) (fun _ _ _ h => h) (Or.inl ⟨by rfl, ?hyT21x9⟩) (by exact hS) ?rsT21x9
          case hyT21x9 => (intro w hSw; (try dsimp only at hSw); unfold Rl.SN at hSw; go_simp; try with_reducible rfl)
          try simp only [Act.put, List.setIfInBounds_toArray, List.set_cons_zero, List.set_cons_succ]
          refine wpAnyH_take (i := 9) (oi := { dst := some 51, op := Op.move (Operand.tmp 6), type := 3, pos := "law.go:135", after := #[{ on := 7, ground := Ground.guard }], guard := some (7, true) }) (v := ?vT21x10) rfl (by kernel_rfl) (by kernel_rfl) (by kernel_rfl) (fun _ _ _ h => h) (Or.inl ⟨by rfl, ?hyT21x10⟩) (by exact hS) ?rsT21x10
          case hyT21x10 => (intro w hSw; (try dsimp only at hSw); unfold Rl.SN at hSw; go_simp; try with_reducible rfl)
          try simp only [Act.put, List.setIfInBounds_toArray, List.set_cons_zero, List.set_cons_succ]
          refine wpAnyH_take (i := 10) (oi := { dst := some 52, op := Op.binOp BinOp.eql 3 (Operand.tmp 50) (Operand.tmp 51) 3, type := 4, pos := "law.go:135", after := #[{ on := 8, ground := Ground.data }, { on := 9, ground := Ground.data }, { on := 7, ground := Ground.guard }], guard := some (7, true) }) (v := ?vT21x11) rfl (by kernel_rfl) (by kernel_rfl) (by kernel_rfl) (fun _ _ _ h => h) (Or.inl ⟨by rfl, ?hyT21x11⟩) (by exact hS) ?rsT21x11
          case hyT21x11 => (intro w hSw; (try dsimp only at hSw); unfold Rl.SN at hSw; go_simp; try with_reducible rfl)
          try simp only [Act.put, List.setIfInBounds_toArray, List.set_cons_zero, List.set_cons_succ]
          refine wpAnyH_take (i := 11) (oi := { dst := some 53, op := Op.pick (Operand.tmp 49) (Operand.tmp 52) (Operand.const (Value.bool false)), type := 4, pos := "law.go:135", after := #[{ on := 7, ground := Ground.data }, { on := 10, ground := Ground.data }], guard := none }) (v := ?vT21x12) rfl (by kernel_rfl) (by kernel_rfl) (by kernel_rfl) (fun _ _ _ h => h) (Or.inl ⟨by rfl, ?hyT21x12⟩) (by exact hS) ?rsT21x12
          case hyT21x12 => (intro w hSw; (try dsimp only at hSw); unfold Rl.SN at hSw; go_simp; try with_reducible rfl)
          try simp only [Act.put, List.setIfInBounds_toArray, List.set_cons_zero, List.set_cons_succ]
          refine wpAnyH_take (i := 12) (oi := { dst := some 54, op := Op.move (Operand.tmp 53), type := 4, pos := "law.go:135", after := #[{ on := 11, ground := Ground.data }, { on := 7, ground := Ground.chain }], guard := none }) (v := ?vT21x13) rfl (by kernel_rfl) (by kernel_rfl) (by kernel_rfl) (fun _ _ _ h => h) (Or.inl ⟨by rfl, ?hyT21x13⟩) (by exact hS) ?rsT21x13
          case hyT21x13 => (intro w hSw; (try dsimp only at hSw); unfold Rl.SN at hSw; go_simp; try with_reducible rfl)
          try simp only [Act.put, List.setIfInBounds_toArray, List.set_cons_zero, List.set_cons_succ]
          refine wpAnyH_take (i := 13) (oi := { dst := some 55, op := Op.move (Operand.tmp 8), type := 28, pos := "law.go:135", after := #[{ on := 12, ground := Ground.guard }], guard := some (12, true) }) (v := ?vT21x14) rfl (by kernel_rfl) (by kernel_rfl) (by kernel_rfl) (fun _ _ _ h => h) (Or.inl ⟨by rfl, ?hyT21x14⟩) (by exact hS) ?rsT21x14
          case hyT21x14 => (intro w hSw; (try dsimp only at hSw); unfold Rl.SN at hSw; go_simp; try with_reducible rfl)
          try simp only [Act.put, List.setIfInBounds_toArray, List.set_cons_zero, List.set_cons_succ]
          refine wpAnyH_take (i := 14) (oi := { dst := some 56, op := Op.binOp BinOp.eql 28 (Operand.tmp 55) (Operand.const (Value.int IntKind.i64 0)) 28, type := 4, pos := "law.go:135", after := #[{ on := 13, ground := Ground.data }, { on := 12, ground := Ground.guard }], guard := some (12, true) }) (v := ?vT21x15) rfl (by kernel_rfl) (by kernel_rfl) (by kernel_rfl) (fun _ _ _ h => h) (Or.inl ⟨by rfl, ?hyT21x15⟩) (by exact hS) ?rsT21x15
          case hyT21x15 => (intro w hSw; (try dsimp only at hSw); unfold Rl.SN at hSw; go_simp; try with_reducible rfl)
          try simp only [Act.put, List.setIfInBounds_toArray, List.set_cons_zero, List.set_cons_succ]
          refine wpAnyH_take (i := 15) (oi := { dst := some 57, op := Op.pick (Operand.tmp 54) (Operand.tmp 56) (Operand.const (Value.bool false)), type := 4, pos := "law.go:135", after := #[{ on := 12, ground := Ground.data }, { on := 14, ground := Ground.data }], guard := none }) (v := ?vT21x16) rfl (by kernel_rfl) (by kernel_rfl) (by kernel_rfl) (fun _ _ _ h => h) (Or.inl ⟨by rfl, ?hyT21x16⟩) (by exact hS) ?rsT21x16
          case hyT21x16 => (intro w hSw; (try dsimp only at hSw); unfold Rl.SN at hSw; go_simp; try with_reducible rfl)
          try simp only [Act.put, List.setIfInBounds_toArray, List.set_cons_zero, List.set_cons_succ]
          refine wpAnyH_take (i := 16) (oi := { dst := some 58, op := Op.move (Operand.tmp 57), type := 4, pos := "law.go:135", after := #[{ on := 15, ground := Ground.data }, { on := 12, ground := Ground.chain }], guard := none }) (v := ?vT21x17) rfl (by kernel_rfl) (by kernel_rfl) (by kernel_rfl) (fun _ _ _ h => h) (Or.inl ⟨by rfl, ?hyT21x17⟩) (by exact hS) ?rsT21x17
          case hyT21x17 => (intro w hSw; (try dsimp only at hSw); unfold Rl.SN at hSw; go_simp; try with_reducible rfl)
          try simp only [Act.put, List.setIfInBounds_toArray, List.set_cons_zero, List.set_cons_succ]
          refine wpAnyH_take (i := 17) (oi := { dst := some 59, op := Op.move (Operand.tmp 0), type := 3, pos := "law.go:135", after := #[{ on := 16, ground := Ground.guard }], guard := some (16, true) }) (v := ?vT21x18) rfl (by kernel_rfl) (by kernel_rfl) (by kernel_rfl) (fun _ _ _ h => h) (Or.inl ⟨by rfl, ?hyT21x18⟩) (by exact hS) ?rsT21x18
          case hyT21x18 => (intro w hSw; (try dsimp only at hSw); unfold Rl.SN at hSw; go_simp; try with_reducible rfl)
          try simp only [Act.put, List.setIfInBounds_toArray, List.set_cons_zero, List.set_cons_succ]
          refine wpAnyH_take (i := 20) (oi := { dst := some 62, op := Op.move (Operand.tmp 0), type := 3, pos := "law.go:135", after := #[{ on := 16, ground := Ground.guard }], guard := some (16, true) }) (v := ?vT21x19) rfl (by kernel_rfl) (by kernel_rfl) (by kernel_rfl) (fun _ _ _ h => h) (Or.inl ⟨by rfl, ?hyT21x19⟩) (by exact hS) ?rsT21x19
          case hyT21x19 => (intro w hSw; (try dsimp only at hSw); unfold Rl.SN at hSw; go_simp; try with_reducible rfl)
          try simp only [Act.put, List.setIfInBounds_toArray, List.set_cons_zero, List.set_cons_succ]
          refine wpAnyH_take (i := 21) (oi := { dst := some 63, op := Op.binOp BinOp.geq 3 (Operand.tmp 62) (Operand.const (Value.int IntKind.i64 0)) 3, type := 4, pos := "law.go:135", after := #[{ on := 20, ground := Ground.data }, { on := 16, ground := Ground.guard }], guard := some (16, true) }) (v := ?vT21x20) rfl (by kernel_rfl) (by kernel_rfl) (by kernel_rfl) (fun _ _ _ h => h) (Or.inl ⟨by rfl, ?hyT21x20⟩) (by exact hS) ?rsT21x20
          case hyT21x20 => (intro w hSw; (try dsimp only at hSw); unfold Rl.SN at hSw; go_simp; try with_reducible rfl)
          try simp only [Act.put, List.setIfInBounds_toArray, List.set_cons_zero, List.set_cons_succ]
          refine wpAnyH_ready (rs := [18]) (by kernel_rfl) (by simp) ?_
          refine (AllReadyH.cons (o := { dst := some 60, op := Op.call { callee := Callee.value (Operand.func 30), args := #[Operand.tmp 59], argTypes := #[3] }, type := 9, pos := "law.go:135", after := #[{ on := 17, ground := Ground.data }, { on := 16, ground := Ground.chain }, { on := 16, ground := Ground.guard }], guard := some (16, true) }) rfl (fun K hK => ?_) AllReadyH.nil)
          go_simp
          refine (HNX.out _).mono ?_
          rintro e yT21x21 ⟨rfl, hq⟩
          try (go_wp2_with fail)
          have hS2 := SQ.out _ (Q.trans (Rl.SN.here hS) hq)
          refine hK.out _ _ (by exact hS2) (fun hHeld => ?_)
          clear hK K hHeld hS hq
          have hS := hS2
          clear hS2
          try simp only [Act.put, List.setIfInBounds_toArray, List.set_cons_zero, List.set_cons_succ]
          refine wpAnyH_take (i := 19) (oi := { dst := some 61, op := Op.binOp BinOp.neq 9 (Operand.tmp 60) (Operand.const (Value.string { data := #[] })) 9, type := 4, pos := "law.go:135", after := #[{ on := 18, ground := Ground.data }, { on := 16, ground := Ground.guard }], guard := some (16, true) }) (v := ?vT21x22) rfl (by kernel_rfl) (by kernel_rfl) (by kernel_rfl) (fun _ _ _ h => h) (Or.inl ⟨by rfl, ?hyT21x22⟩) (by exact hS) ?rsT21x22
          case hyT21x22 => (intro w hSw; (try dsimp only at hSw); unfold Rl.SN at hSw; go_simp; try with_reducible rfl)
          try simp only [Act.put, List.setIfInBounds_toArray, List.set_cons_zero, List.set_cons_succ]
          refine wpAnyH_take (i := 22) (oi := { dst := some 64, op := Op.move (Operand.tmp 63), type := 4, pos := "law.go:135", after := #[{ on := 21, ground := Ground.data }, { on := 18, ground := Ground.chain }, { on := 16, ground := Ground.guard }], guard := some (16, true) }) (v := ?vT21x23) rfl (by kernel_rfl) (by kernel_rfl) (by kernel_rfl) (fun _ _ _ h => h) (Or.inl ⟨by rfl, ?hyT21x23⟩) (by exact hS) ?rsT21x23
          case hyT21x23 => (intro w hSw; (try dsimp only at hSw); unfold Rl.SN at hSw; go_simp; try with_reducible rfl)
          try simp only [Act.put, List.setIfInBounds_toArray, List.set_cons_zero, List.set_cons_succ]
          refine wpAnyH_take (i := 23) (oi := { dst := some 65, op := Op.move (Operand.tmp 0), type := 3, pos := "law.go:135", after := #[{ on := 22, ground := Ground.guard }], guard := some (22, true) }) (v := ?vT21x24) rfl (by kernel_rfl) (by kernel_rfl) (by kernel_rfl) (fun _ _ _ h => h) (Or.inl ⟨by rfl, ?hyT21x24⟩) (by exact hS) ?rsT21x24
          case hyT21x24 => (intro w hSw; (try dsimp only at hSw); unfold Rl.SN at hSw; go_simp; try with_reducible rfl)
          try simp only [Act.put, List.setIfInBounds_toArray, List.set_cons_zero, List.set_cons_succ]
          refine wpAnyH_take (i := 24) (oi := { dst := some 66, op := Op.binOp BinOp.lss 3 (Operand.tmp 65) (Operand.const (Value.int IntKind.i64 7)) 3, type := 4, pos := "law.go:135", after := #[{ on := 23, ground := Ground.data }, { on := 22, ground := Ground.guard }], guard := some (22, true) }) (v := ?vT21x25) rfl (by kernel_rfl) (by kernel_rfl) (by kernel_rfl) (fun _ _ _ h => h) (Or.inl ⟨by rfl, ?hyT21x25⟩) (by exact hS) ?rsT21x25
          case hyT21x25 => (intro w hSw; (try dsimp only at hSw); unfold Rl.SN at hSw; go_simp; try with_reducible rfl)
          try simp only [Act.put, List.setIfInBounds_toArray, List.set_cons_zero, List.set_cons_succ]
          refine wpAnyH_take (i := 25) (oi := { dst := some 67, op := Op.pick (Operand.tmp 64) (Operand.tmp 66) (Operand.const (Value.bool false)), type := 4, pos := "law.go:135", after := #[{ on := 22, ground := Ground.data }, { on := 24, ground := Ground.data }, { on := 16, ground := Ground.guard }], guard := some (16, true) }) (v := ?vT21x26) rfl (by kernel_rfl) (by kernel_rfl) (by kernel_rfl) (fun _ _ _ h => h) (Or.inl ⟨by rfl, ?hyT21x26⟩) (by exact hS) ?rsT21x26
          case hyT21x26 => (intro w hSw; (try dsimp only at hSw); unfold Rl.SN at hSw; go_simp; try with_reducible rfl)
          try simp only [Act.put, List.setIfInBounds_toArray, List.set_cons_zero, List.set_cons_succ]
          refine wpAnyH_take (i := 26) (oi := { dst := some 68, op := Op.binOp BinOp.eql 4 (Operand.tmp 61) (Operand.tmp 67) 4, type := 4, pos := "law.go:135", after := #[{ on := 19, ground := Ground.data }, { on := 25, ground := Ground.data }, { on := 16, ground := Ground.guard }], guard := some (16, true) }) (v := ?vT21x27) rfl (by kernel_rfl) (by kernel_rfl) (by kernel_rfl) (fun _ _ _ h => h) (Or.inl ⟨by rfl, ?hyT21x27⟩) (by exact hS) ?rsT21x27
          case hyT21x27 => (intro w hSw; (try dsimp only at hSw); unfold Rl.SN at hSw; go_simp; try with_reducible rfl)
          try simp only [Act.put, List.setIfInBounds_toArray, List.set_cons_zero, List.set_cons_succ]
          refine wpAnyH_take (i := 27) (oi := { dst := some 69, op := Op.pick (Operand.tmp 58) (Operand.tmp 68) (Operand.const (Value.bool false)), type := 4, pos := "law.go:135", after := #[{ on := 16, ground := Ground.data }, { on := 26, ground := Ground.data }], guard := none }) (v := ?vT21x28) rfl (by kernel_rfl) (by kernel_rfl) (by kernel_rfl) (fun _ _ _ h => h) (Or.inl ⟨by rfl, ?hyT21x28⟩) (by exact hS) ?rsT21x28
          case hyT21x28 => (intro w hSw; (try dsimp only at hSw); unfold Rl.SN at hSw; go_simp; try with_reducible rfl)
          try simp only [Act.put, List.setIfInBounds_toArray, List.set_cons_zero, List.set_cons_succ]
          refine wpAnyH_take (i := 28) (oi := { dst := some 70, op := Op.move (Operand.tmp 69), type := 4, pos := "law.go:135", after := #[{ on := 27, ground := Ground.data }, { on := 22, ground := Ground.chain }], guard := none }) (v := ?vT21x29) rfl (by kernel_rfl) (by kernel_rfl) (by kernel_rfl) (fun _ _ _ h => h) (Or.inl ⟨by rfl, ?hyT21x29⟩) (by exact hS) ?rsT21x29
          case hyT21x29 => (intro w hSw; (try dsimp only at hSw); unfold Rl.SN at hSw; go_simp; try with_reducible rfl)
          try simp only [Act.put, List.setIfInBounds_toArray, List.set_cons_zero, List.set_cons_succ]
          refine wpAnyH_take (i := 29) (oi := { dst := some 71, op := Op.move (Operand.tmp 12), type := 28, pos := "law.go:135", after := #[{ on := 28, ground := Ground.guard }], guard := some (28, true) }) (v := ?vT21x30) rfl (by kernel_rfl) (by kernel_rfl) (by kernel_rfl) (fun _ _ _ h => h) (Or.inl ⟨by rfl, ?hyT21x30⟩) (by exact hS) ?rsT21x30
          case hyT21x30 => (intro w hSw; (try dsimp only at hSw); unfold Rl.SN at hSw; go_simp; try with_reducible rfl)
          try simp only [Act.put, List.setIfInBounds_toArray, List.set_cons_zero, List.set_cons_succ]
          refine wpAnyH_take (i := 30) (oi := { dst := some 72, op := Op.binOp BinOp.eql 28 (Operand.tmp 71) (Operand.const (Value.int IntKind.i64 0)) 28, type := 4, pos := "law.go:135", after := #[{ on := 29, ground := Ground.data }, { on := 28, ground := Ground.guard }], guard := some (28, true) }) (v := ?vT21x31) rfl (by kernel_rfl) (by kernel_rfl) (by kernel_rfl) (fun _ _ _ h => h) (Or.inl ⟨by rfl, ?hyT21x31⟩) (by exact hS) ?rsT21x31
          case hyT21x31 => (intro w hSw; (try dsimp only at hSw); unfold Rl.SN at hSw; go_simp; try with_reducible rfl)
          try simp only [Act.put, List.setIfInBounds_toArray, List.set_cons_zero, List.set_cons_succ]
          refine wpAnyH_take (i := 31) (oi := { dst := some 73, op := Op.move (Operand.tmp 9), type := 3, pos := "law.go:135", after := #[{ on := 28, ground := Ground.guard }], guard := some (28, true) }) (v := ?vT21x32) rfl (by kernel_rfl) (by kernel_rfl) (by kernel_rfl) (fun _ _ _ h => h) (Or.inl ⟨by rfl, ?hyT21x32⟩) (by exact hS) ?rsT21x32
          case hyT21x32 => (intro w hSw; (try dsimp only at hSw); unfold Rl.SN at hSw; go_simp; try with_reducible rfl)
          try simp only [Act.put, List.setIfInBounds_toArray, List.set_cons_zero, List.set_cons_succ]
          refine wpAnyH_take (i := 32) (oi := { dst := some 74, op := Op.binOp BinOp.geq 3 (Operand.tmp 73) (Operand.const (Value.int IntKind.i64 0)) 3, type := 4, pos := "law.go:135", after := #[{ on := 31, ground := Ground.data }, { on := 28, ground := Ground.guard }], guard := some (28, true) }) (v := ?vT21x33) rfl (by kernel_rfl) (by kernel_rfl) (by kernel_rfl) (fun _ _ _ h => h) (Or.inl ⟨by rfl, ?hyT21x33⟩) (by exact hS) ?rsT21x33
          case hyT21x33 => (intro w hSw; (try dsimp only at hSw); unfold Rl.SN at hSw; go_simp; try with_reducible rfl)
          try simp only [Act.put, List.setIfInBounds_toArray, List.set_cons_zero, List.set_cons_succ]
          refine wpAnyH_take (i := 33) (oi := { dst := some 75, op := Op.binOp BinOp.eql 4 (Operand.tmp 72) (Operand.tmp 74) 4, type := 4, pos := "law.go:135", after := #[{ on := 30, ground := Ground.data }, { on := 32, ground := Ground.data }, { on := 28, ground := Ground.guard }], guard := some (28, true) }) (v := ?vT21x34) rfl (by kernel_rfl) (by kernel_rfl) (by kernel_rfl) (fun _ _ _ h => h) (Or.inl ⟨by rfl, ?hyT21x34⟩) (by exact hS) ?rsT21x34
          case hyT21x34 => (intro w hSw; (try dsimp only at hSw); unfold Rl.SN at hSw; go_simp; try with_reducible rfl)
          try simp only [Act.put, List.setIfInBounds_toArray, List.set_cons_zero, List.set_cons_succ]
          refine wpAnyH_take (i := 34) (oi := { dst := some 76, op := Op.pick (Operand.tmp 70) (Operand.tmp 75) (Operand.const (Value.bool false)), type := 4, pos := "law.go:135", after := #[{ on := 28, ground := Ground.data }, { on := 33, ground := Ground.data }], guard := none }) (v := ?vT21x35) rfl (by kernel_rfl) (by kernel_rfl) (by kernel_rfl) (fun _ _ _ h => h) (Or.inl ⟨by rfl, ?hyT21x35⟩) (by exact hS) ?rsT21x35
          case hyT21x35 => (intro w hSw; (try dsimp only at hSw); unfold Rl.SN at hSw; go_simp; try with_reducible rfl)
          try simp only [Act.put, List.setIfInBounds_toArray, List.set_cons_zero, List.set_cons_succ]
          refine wpAnyH_take (i := 35) (oi := { dst := some 77, op := Op.move (Operand.tmp 76), type := 4, pos := "law.go:135", after := #[{ on := 34, ground := Ground.data }, { on := 28, ground := Ground.chain }], guard := none }) (v := ?vT21x36) rfl (by kernel_rfl) (by kernel_rfl) (by kernel_rfl) (fun _ _ _ h => h) (Or.inl ⟨by rfl, ?hyT21x36⟩) (by exact hS) ?rsT21x36
          case hyT21x36 => (intro w hSw; (try dsimp only at hSw); unfold Rl.SN at hSw; go_simp; try with_reducible rfl)
          try simp only [Act.put, List.setIfInBounds_toArray, List.set_cons_zero, List.set_cons_succ]
          refine wpAnyH_take (i := 36) (oi := { dst := some 78, op := Op.move (Operand.tmp 11), type := 3, pos := "law.go:135", after := #[{ on := 35, ground := Ground.guard }], guard := some (35, true) }) (v := ?vT21x37) rfl (by kernel_rfl) (by kernel_rfl) (by kernel_rfl) (fun _ _ _ h => h) (Or.inl ⟨by rfl, ?hyT21x37⟩) (by exact hS) ?rsT21x37
          case hyT21x37 => (intro w hSw; (try dsimp only at hSw); unfold Rl.SN at hSw; go_simp; try with_reducible rfl)
          try simp only [Act.put, List.setIfInBounds_toArray, List.set_cons_zero, List.set_cons_succ]
          refine wpAnyH_take (i := 37) (oi := { dst := some 79, op := Op.move (Operand.tmp 9), type := 3, pos := "law.go:135", after := #[{ on := 35, ground := Ground.guard }], guard := some (35, true) }) (v := ?vT21x38) rfl (by kernel_rfl) (by kernel_rfl) (by kernel_rfl) (fun _ _ _ h => h) (Or.inl ⟨by rfl, ?hyT21x38⟩) (by exact hS) ?rsT21x38
          case hyT21x38 => (intro w hSw; (try dsimp only at hSw); unfold Rl.SN at hSw; go_simp; try with_reducible rfl)
          try simp only [Act.put, List.setIfInBounds_toArray, List.set_cons_zero, List.set_cons_succ]
          refine wpAnyH_take (i := 38) (oi := { dst := some 80, op := Op.call { callee := Callee.builtin Builtin.max, args := #[Operand.tmp 79, Operand.const (Value.int IntKind.i64 0)], argTypes := #[3, 3] }, type := 3, pos := "law.go:135", after := #[{ on := 37, ground := Ground.data }, { on := 35, ground := Ground.guard }], guard := some (35, true) }) (v := ?vT21x39) rfl (by kernel_rfl) (by kernel_rfl) (by kernel_rfl) (fun _ _ _ h => h) (Or.inl ⟨by rfl, ?hyT21x39⟩) (by exact hS) ?rsT21x39
          case hyT21x39 => (intro w hSw; (try dsimp only at hSw); unfold Rl.SN at hSw; go_simp; try with_reducible rfl)
          try simp only [Act.put, List.setIfInBounds_toArray, List.set_cons_zero, List.set_cons_succ]
          refine wpAnyH_take (i := 39) (oi := { dst := some 81, op := Op.binOp BinOp.eql 3 (Operand.tmp 78) (Operand.tmp 80) 3, type := 4, pos := "law.go:135", after := #[{ on := 36, ground := Ground.data }, { on := 38, ground := Ground.data }, { on := 35, ground := Ground.guard }], guard := some (35, true) }) (v := ?vT21x40) rfl (by kernel_rfl) (by kernel_rfl) (by kernel_rfl) (fun _ _ _ h => h) (Or.inl ⟨by rfl, ?hyT21x40⟩) (by exact hS) ?rsT21x40
          case hyT21x40 => (intro w hSw; (try dsimp only at hSw); unfold Rl.SN at hSw; go_simp; try with_reducible rfl)
          try simp only [Act.put, List.setIfInBounds_toArray, List.set_cons_zero, List.set_cons_succ]
          refine wpAnyH_take (i := 40) (oi := { dst := some 82, op := Op.pick (Operand.tmp 77) (Operand.tmp 81) (Operand.const (Value.bool false)), type := 4, pos := "law.go:135", after := #[{ on := 35, ground := Ground.data }, { on := 39, ground := Ground.data }], guard := none }) (v := ?vT21x41) rfl (by kernel_rfl) (by kernel_rfl) (by kernel_rfl) (fun _ _ _ h => h) (Or.inl ⟨by rfl, ?hyT21x41⟩) (by exact hS) ?rsT21x41
          case hyT21x41 => (intro w hSw; (try dsimp only at hSw); unfold Rl.SN at hSw; go_simp; try with_reducible rfl)
          try simp only [Act.put, List.setIfInBounds_toArray, List.set_cons_zero, List.set_cons_succ]
          refine wpAnyH_take (i := 41) (oi := { dst := some 83, op := Op.move (Operand.tmp 82), type := 4, pos := "law.go:135", after := #[{ on := 40, ground := Ground.data }, { on := 35, ground := Ground.chain }], guard := none }) (v := ?vT21x42) rfl (by kernel_rfl) (by kernel_rfl) (by kernel_rfl) (fun _ _ _ h => h) (Or.inl ⟨by rfl, ?hyT21x42⟩) (by exact hS) ?rsT21x42
          case hyT21x42 => (intro w hSw; (try dsimp only at hSw); unfold Rl.SN at hSw; go_simp; try with_reducible rfl)
          try simp only [Act.put, List.setIfInBounds_toArray, List.set_cons_zero, List.set_cons_succ]
          refine wpAnyH_take (i := 42) (oi := { dst := some 84, op := Op.move (Operand.tmp 9), type := 3, pos := "law.go:135", after := #[{ on := 41, ground := Ground.guard }], guard := some (41, true) }) (v := ?vT21x43) rfl (by kernel_rfl) (by kernel_rfl) (by kernel_rfl) (fun _ _ _ h => h) (Or.inl ⟨by rfl, ?hyT21x43⟩) (by exact hS) ?rsT21x43
          case hyT21x43 => (intro w hSw; (try dsimp only at hSw); unfold Rl.SN at hSw; go_simp; try with_reducible rfl)
          try simp only [Act.put, List.setIfInBounds_toArray, List.set_cons_zero, List.set_cons_succ]
          refine wpAnyH_take (i := 43) (oi := { dst := some 85, op := Op.binOp BinOp.geq 3 (Operand.tmp 84) (Operand.const (Value.int IntKind.i64 0)) 3, type := 4, pos := "law.go:135", after := #[{ on := 42, ground := Ground.data }, { on := 41, ground := Ground.guard }], guard := some (41, true) }) (v := ?vT21x44) rfl (by kernel_rfl) (by kernel_rfl) (by kernel_rfl) (fun _ _ _ h => h) (Or.inl ⟨by rfl, ?hyT21x44⟩) (by exact hS) ?rsT21x44
          case hyT21x44 => (intro w hSw; (try dsimp only at hSw); unfold Rl.SN at hSw; go_simp; try with_reducible rfl)
          try simp only [Act.put, List.setIfInBounds_toArray, List.set_cons_zero, List.set_cons_succ]
          refine wpAnyH_take (i := 44) (oi := { dst := some 86, op := Op.move (Operand.tmp 85), type := 4, pos := "law.go:135", after := #[{ on := 43, ground := Ground.data }, { on := 41, ground := Ground.chain }, { on := 41, ground := Ground.guard }], guard := some (41, true) }) (v := ?vT21x45) rfl (by kernel_rfl) (by kernel_rfl) (by kernel_rfl) (fun _ _ _ h => h) (Or.inl ⟨by rfl, ?hyT21x45⟩) (by exact hS) ?rsT21x45
          case hyT21x45 => (intro w hSw; (try dsimp only at hSw); unfold Rl.SN at hSw; go_simp; try with_reducible rfl)
          try simp only [Act.put, List.setIfInBounds_toArray, List.set_cons_zero, List.set_cons_succ]
          refine wpAnyH_take (i := 45) (oi := { dst := some 87, op := Op.move (Operand.tmp 12), type := 28, pos := "law.go:135", after := #[{ on := 44, ground := Ground.guard }], guard := some (44, false) }) (v := undef) rfl (by kernel_rfl) (by kernel_rfl) (by kernel_rfl) (fun _ _ _ h => h) (Or.inr ⟨by rfl, rfl⟩) (by exact hS) ?_
          try simp only [Act.put, List.setIfInBounds_toArray, List.set_cons_zero, List.set_cons_succ]
          refine wpAnyH_take (i := 46) (oi := { dst := some 88, op := Op.binOp BinOp.eql 28 (Operand.tmp 87) (Operand.const (Value.int IntKind.i64 7)) 28, type := 4, pos := "law.go:135", after := #[{ on := 45, ground := Ground.data }, { on := 44, ground := Ground.guard }], guard := some (44, false) }) (v := undef) rfl (by kernel_rfl) (by kernel_rfl) (by kernel_rfl) (fun _ _ _ h => h) (Or.inr ⟨by rfl, rfl⟩) (by exact hS) ?_
          try simp only [Act.put, List.setIfInBounds_toArray, List.set_cons_zero, List.set_cons_succ]
          refine wpAnyH_take (i := 47) (oi := { dst := some 89, op := Op.pick (Operand.tmp 86) (Operand.const (Value.bool true)) (Operand.tmp 88), type := 4, pos := "law.go:135", after := #[{ on := 44, ground := Ground.data }, { on := 46, ground := Ground.data }, { on := 41, ground := Ground.guard }], guard := some (41, true) }) (v := ?vT21x48) rfl (by kernel_rfl) (by kernel_rfl) (by kernel_rfl) (fun _ _ _ h => h) (Or.inl ⟨by rfl, ?hyT21x48⟩) (by exact hS) ?rsT21x48
          case hyT21x48 => (intro w hSw; (try dsimp only at hSw); unfold Rl.SN at hSw; go_simp; try with_reducible rfl)
          try simp only [Act.put, List.setIfInBounds_toArray, List.set_cons_zero, List.set_cons_succ]
          refine wpAnyH_take (i := 48) (oi := { dst := some 90, op := Op.pick (Operand.tmp 83) (Operand.tmp 89) (Operand.const (Value.bool false)), type := 4, pos := "law.go:135", after := #[{ on := 41, ground := Ground.data }, { on := 47, ground := Ground.data }], guard := none }) (v := ?vT21x49) rfl (by kernel_rfl) (by kernel_rfl) (by kernel_rfl) (fun _ _ _ h => h) (Or.inl ⟨by rfl, ?hyT21x49⟩) (by exact hS) ?rsT21x49
          case hyT21x49 => (intro w hSw; (try dsimp only at hSw); unfold Rl.SN at hSw; go_simp; try with_reducible rfl)
          try simp only [Act.put, List.setIfInBounds_toArray, List.set_cons_zero, List.set_cons_succ]
          refine wpAnyH_take (i := 49) (oi := { dst := some 91, op := Op.move (Operand.tmp 90), type := 4, pos := "law.go:135", after := #[{ on := 48, ground := Ground.data }, { on := 44, ground := Ground.chain }], guard := none }) (v := ?vT21x50) rfl (by kernel_rfl) (by kernel_rfl) (by kernel_rfl) (fun _ _ _ h => h) (Or.inl ⟨by rfl, ?hyT21x50⟩) (by exact hS) ?rsT21x50
          case hyT21x50 => (intro w hSw; (try dsimp only at hSw); unfold Rl.SN at hSw; go_simp; try with_reducible rfl)
          try simp only [Act.put, List.setIfInBounds_toArray, List.set_cons_zero, List.set_cons_succ]
          refine wpAnyH_ready (rs := [50]) (by kernel_rfl) (by simp) ?_
          refine (AllReadyH.cons (o := { dst := some 92, op := Op.call { callee := Callee.value (Operand.func 18), args := #[], argTypes := #[] }, type := 4, pos := "law.go:135", after := #[{ on := 49, ground := Ground.chain }, { on := 49, ground := Ground.guard }], guard := some (49, true) }) rfl (fun K hK => ?_) AllReadyH.nil)
          go_simp
          refine (LV.out _).mono ?_
          rintro e yT21x51 ⟨rfl, hq⟩
          try (go_wp2_with fail)
          have hS2 := SQ.out _ (Q.trans (Rl.SN.here hS) hq)
          refine hK.out _ _ (by exact hS2) (fun hHeld => ?_)
          clear hK K hHeld hS hq
          have hS := hS2
          clear hS2
          try simp only [Act.put, List.setIfInBounds_toArray, List.set_cons_zero, List.set_cons_succ]
          refine wpAnyH_take (i := 51) (oi := { dst := some 93, op := Op.pick (Operand.tmp 91) (Operand.tmp 92) (Operand.const (Value.bool false)), type := 4, pos := "law.go:135", after := #[{ on := 49, ground := Ground.data }, { on := 50, ground := Ground.data }], guard := none }) (v := ?vT21x52) rfl (by kernel_rfl) (by kernel_rfl) (by kernel_rfl) (fun _ _ _ h => h) (Or.inl ⟨by rfl, ?hyT21x52⟩) (by exact hS) ?rsT21x52
          case hyT21x52 => (intro w hSw; (try dsimp only at hSw); unfold Rl.SN at hSw; go_simp; try with_reducible rfl)
          try simp only [Act.put, List.setIfInBounds_toArray, List.set_cons_zero, List.set_cons_succ]
          refine wpAnyH_take (i := 52) (oi := { dst := some 4, op := Op.assign (Operand.tmp 93), type := 4, pos := "law.go:135", after := #[{ on := 51, ground := Ground.data }, { on := 50, ground := Ground.chain }, { on := 0, ground := Ground.phase }, { on := 1, ground := Ground.phase }, { on := 2, ground := Ground.phase }, { on := 3, ground := Ground.phase }, { on := 4, ground := Ground.phase }, { on := 5, ground := Ground.phase }, { on := 6, ground := Ground.phase }, { on := 7, ground := Ground.phase }, { on := 8, ground := Ground.phase }, { on := 9, ground := Ground.phase }, { on := 10, ground := Ground.phase }, { on := 11, ground := Ground.phase }, { on := 12, ground := Ground.phase }, { on := 13, ground := Ground.phase }, { on := 14, ground := Ground.phase }, { on := 15, ground := Ground.phase }, { on := 16, ground := Ground.phase }, { on := 17, ground := Ground.phase }, { on := 18, ground := Ground.phase }, { on := 19, ground := Ground.phase }, { on := 20, ground := Ground.phase }, { on := 21, ground := Ground.phase }, { on := 22, ground := Ground.phase }, { on := 23, ground := Ground.phase }, { on := 24, ground := Ground.phase }, { on := 25, ground := Ground.phase }, { on := 26, ground := Ground.phase }, { on := 27, ground := Ground.phase }, { on := 28, ground := Ground.phase }, { on := 29, ground := Ground.phase }, { on := 30, ground := Ground.phase }, { on := 31, ground := Ground.phase }, { on := 32, ground := Ground.phase }, { on := 33, ground := Ground.phase }, { on := 34, ground := Ground.phase }, { on := 35, ground := Ground.phase }, { on := 36, ground := Ground.phase }, { on := 37, ground := Ground.phase }, { on := 38, ground := Ground.phase }, { on := 39, ground := Ground.phase }, { on := 40, ground := Ground.phase }, { on := 41, ground := Ground.phase }, { on := 42, ground := Ground.phase }, { on := 43, ground := Ground.phase }, { on := 44, ground := Ground.phase }, { on := 45, ground := Ground.phase }, { on := 46, ground := Ground.phase }, { on := 47, ground := Ground.phase }, { on := 48, ground := Ground.phase }, { on := 49, ground := Ground.phase }, { on := 50, ground := Ground.phase }, { on := 51, ground := Ground.phase }], guard := none }) (v := ?vT21x53) rfl (by kernel_rfl) (by kernel_rfl) (by kernel_rfl) (fun _ _ _ h => h) (Or.inl ⟨by rfl, ?hyT21x53⟩) (by exact hS) ?rsT21x53
          case hyT21x53 => (intro w hSw; (try dsimp only at hSw); unfold Rl.SN at hSw; go_simp; try with_reducible rfl)
          try simp only [Act.put, List.setIfInBounds_toArray, List.set_cons_zero, List.set_cons_succ]
          refine wpAnyH_done (by kernel_rfl) ?_ _
          have HQE := Lib.hid (Q2.out.trans (Rl.SN.here hS))
          clear hS SQ
          go_wp2_with fail
          go_ret
          exact ⟨rfl, HQE.out⟩
      · have hmx : max (-1 : Int) 0 = 0 := by decide
        rw [if_neg (show ¬ (0 : Int) ≤ -1 by decide), if_neg (show ¬ (0 : Int) ≤ -1 by decide)] at H2
        rcases (show a0 < 0 ∨ (∃ k : Nat, a0 = (k : Int) ∧ k < 7) ∨ 7 ≤ a0 from by
          by_cases h : a0 < 0
          · exact .inl h
          · by_cases h2 : a0 < 7
            · exact .inr (.inl ⟨a0.toNat, by omega, by omega⟩)
            · exact .inr (.inr (by omega))) with hn | ⟨k, rfl, hk⟩ | hn
        · have HNX := HN2.out
          rw [Rm.nm_out a0 (.inl hn)] at HNX
          have HNX := Lib.hid HNX
          have hn1 : decide ((0 : Int) ≤ a0) = false := by simp; omega
          have hn2 : ¬ (0 : Int) ≤ a0 := by omega
          have HM2 := Lib.hid H2
          clear H2
          go_wp2_with fail
          refine (HM2.out _).mono ?_
          rintro e z2 ⟨rfl, hq2⟩
          have HB2 := Lib.hid ((Q.block hq2 (lt_of_block HB.out)).trans HB.out)
          have Q2 := Lib.hid (HQ.out.trans hq2)
          clear hq2 HB HQ
          have SQ := Lib.hid (fun u (q : Q z2 u) => (⟨HCM.out u ((Q.block q (lt_of_block HB2.out)).trans HB2.out), q⟩ : Rl.SN z2 w.heap.size m x0 u))
          go_wp2_with fail
          refine wp_region_held_drew (S := fun u => Rl.SN z2 w.heap.size m x0 u) (by kernel_rfl) (by exact SQ.out _ ((Q.refl z2).drew)) (fun hHeld => ?_)
          have hS : Rl.SN z2 w.heap.size m x0 z2.drew := hHeld
          clear hHeld
          generalize z2.drew = yT22x0 at hS ⊢
          refine wpAnyH_take (i := 0) (oi := { dst := some 42, op := Op.move (Operand.tmp 6), type := 3, pos := "law.go:135", after := #[], guard := none }) (v := ?vT22x1) rfl (by kernel_rfl) (by kernel_rfl) (by kernel_rfl) (fun _ _ _ h => h) (Or.inl ⟨by rfl, ?hyT22x1⟩) (by exact hS) ?rsT22x1
          case hyT22x1 => (intro w hSw; (try dsimp only at hSw); unfold Rl.SN at hSw; go_simp; try with_reducible rfl)
          try simp only [Act.put, List.setIfInBounds_toArray, List.set_cons_zero, List.set_cons_succ]
          refine wpAnyH_take (i := 2) (oi := { dst := some 44, op := Op.move (Operand.tmp 5), type := 50, pos := "law.go:135", after := #[], guard := none }) (v := ?vT22x2) rfl (by kernel_rfl) (by kernel_rfl) (by kernel_rfl) (fun _ _ _ h => h) (Or.inl ⟨by rfl, ?hyT22x2⟩) (by exact hS) ?rsT22x2
          case hyT22x2 => (intro w hSw; (try dsimp only at hSw); unfold Rl.SN at hSw; go_simp; try with_reducible rfl)
          try simp only [Act.put, List.setIfInBounds_toArray, List.set_cons_zero, List.set_cons_succ]
          refine wpAnyH_take (i := 3) (oi := { dst := some 45, op := Op.move (Operand.tmp 6), type := 3, pos := "law.go:135", after := #[], guard := none }) (v := ?vT22x3) rfl (by kernel_rfl) (by kernel_rfl) (by kernel_rfl) (fun _ _ _ h => h) (Or.inl ⟨by rfl, ?hyT22x3⟩) (by exact hS) ?rsT22x3
          case hyT22x3 => (intro w hSw; (try dsimp only at hSw); unfold Rl.SN at hSw; go_simp; try with_reducible rfl)
          try simp only [Act.put, List.setIfInBounds_toArray, List.set_cons_zero, List.set_cons_succ]
          refine wpAnyH_take (i := 4) (oi := { dst := some 46, op := Op.indexAddr 50 (Operand.tmp 44) (Operand.tmp 45), type := 0, pos := "law.go:135", after := #[{ on := 2, ground := Ground.data }, { on := 3, ground := Ground.data }], guard := none }) (v := ?vT22x4) rfl (by kernel_rfl) (by kernel_rfl) (by kernel_rfl) (fun _ _ _ h => h) (Or.inl ⟨by rfl, ?hyT22x4⟩) (by exact hS) ?rsT22x4
          case hyT22x4 => (intro w hSw; (try dsimp only at hSw); unfold Rl.SN at hSw; go_simp; try with_reducible rfl)
          try simp only [Act.put, List.setIfInBounds_toArray, List.set_cons_zero, List.set_cons_succ]
          refine wpAnyH_take (i := 5) (oi := { dst := some 47, op := Op.load 9 (Operand.tmp 46), type := 9, pos := "law.go:135", after := #[{ on := 4, ground := Ground.data }], guard := none }) (v := ?vT22x5) rfl (by kernel_rfl) (by kernel_rfl) (by kernel_rfl) (fun _ _ _ h => h) (Or.inl ⟨by rfl, ?hyT22x5⟩) (by exact hS) ?rsT22x5
          case hyT22x5 => (intro w hSw; (try dsimp only at hSw); unfold Rl.SN at hSw; go_simp; try with_reducible rfl)
          try simp only [Act.put, List.setIfInBounds_toArray, List.set_cons_zero, List.set_cons_succ]
          refine wpAnyH_ready (rs := [1]) (by kernel_rfl) (by simp) ?_
          refine (AllReadyH.cons (o := { dst := some 43, op := Op.call { callee := Callee.value (Operand.func 30), args := #[Operand.tmp 42], argTypes := #[3] }, type := 9, pos := "law.go:135", after := #[{ on := 0, ground := Ground.data }], guard := none }) rfl (fun K hK => ?_) AllReadyH.nil)
          go_simp
          refine (HN1.out _).mono ?_
          rintro e yT22x6 ⟨rfl, hq⟩
          try (go_wp2_with fail)
          have hS2 := SQ.out _ (Q.trans (Rl.SN.here hS) hq)
          refine hK.out _ _ (by exact hS2) (fun hHeld => ?_)
          clear hK K hHeld hS hq
          have hS := hS2
          clear hS2
          try simp only [Act.put, List.setIfInBounds_toArray, List.set_cons_zero, List.set_cons_succ]
          refine wpAnyH_take (i := 6) (oi := { dst := some 48, op := Op.binOp BinOp.eql 9 (Operand.tmp 43) (Operand.tmp 47) 9, type := 4, pos := "law.go:135", after := #[{ on := 1, ground := Ground.data }, { on := 5, ground := Ground.data }], guard := none }) (v := ?vT22x7) rfl (by kernel_rfl) (by kernel_rfl) (by kernel_rfl) (fun _ _ _ h => h) (Or.inl ⟨by rfl, ?hyT22x7⟩) (by exact hS) ?rsT22x7
          case hyT22x7 => (intro w hSw; (try dsimp only at hSw); unfold Rl.SN at hSw; go_simp; try with_reducible rfl)
          try simp only [Act.put, List.setIfInBounds_toArray, List.set_cons_zero, List.set_cons_succ]
          refine wpAnyH_take (i := 7) (oi := { dst := some 49, op := Op.move (Operand.tmp 48), type := 4, pos := "law.go:135", after := #[{ on := 6, ground := Ground.data }, { on := 1, ground := Ground.chain }], guard := none }) (v := ?vT22x8) rfl (by kernel_rfl) (by kernel_rfl) (by kernel_rfl) (fun _ _ _ h => h) (Or.inl ⟨by rfl, ?hyT22x8⟩) (by exact hS) ?rsT22x8
          case hyT22x8 => (intro w hSw; (try dsimp only at hSw); unfold Rl.SN at hSw; go_simp; try with_reducible rfl)
          try simp only [Act.put, List.setIfInBounds_toArray, List.set_cons_zero, List.set_cons_succ]
          refine wpAnyH_take (i := 8) (oi := { dst := some 50, op := Op.move (Operand.tmp 7), type := 3, pos := "law.go:135", after := #[{ on := 7, ground := Ground.guard }], guard := some (7, true) }) (v := ?vT22x9) rfl (by kernel_rfl) (by kernel_rfl) (by kernel_rfl) (fun _ _ _ h => h) (Or.inl ⟨by rfl, ?hyT22x9⟩) (by exact hS) ?rsT22x9
          case hyT22x9 => (intro w hSw; (try dsimp only at hSw); unfold Rl.SN at hSw; go_simp; try with_reducible rfl)
          try simp only [Act.put, List.setIfInBounds_toArray, List.set_cons_zero, List.set_cons_succ]
          refine wpAnyH_take (i := 9) (oi := { dst := some 51, op := Op.move (Operand.tmp 6), type := 3, pos := "law.go:135", after := #[{ on := 7, ground := Ground.guard }], guard := some (7, true) }) (v := ?vT22x10) rfl (by kernel_rfl) (by kernel_rfl) (by kernel_rfl) (fun _ _ _ h => h) (Or.inl ⟨by rfl, ?hyT22x10⟩) (by exact hS) ?rsT22x10
          case hyT22x10 => (intro w hSw; (try dsimp only at hSw); unfold Rl.SN at hSw; go_simp; try with_reducible rfl)
          try simp only [Act.put, List.setIfInBounds_toArray, List.set_cons_zero, List.set_cons_succ]
          refine wpAnyH_take (i := 10) (oi := { dst := some 52, op := Op.binOp BinOp.eql 3 (Operand.tmp 50) (Operand.tmp 51) 3, type := 4, pos := "law.go:135", after := #[{ on := 8, ground := Ground.data }, { on := 9, ground := Ground.data }, { on := 7, ground := Ground.guard }], guard := some (7, true) }) (v := ?vT22x11) rfl (by kernel_rfl) (by kernel_rfl) (by kernel_rfl) (fun _ _ _ h => h) (Or.inl ⟨by rfl, ?hyT22x11⟩) (by exact hS) ?rsT22x11
          case hyT22x11 => (intro w hSw; (try dsimp only at hSw); unfold Rl.SN at hSw; go_simp; try with_reducible rfl)
          try simp only [Act.put, List.setIfInBounds_toArray, List.set_cons_zero, List.set_cons_succ]
          refine wpAnyH_take (i := 11) (oi := { dst := some 53, op := Op.pick (Operand.tmp 49) (Operand.tmp 52) (Operand.const (Value.bool false)), type := 4, pos := "law.go:135", after := #[{ on := 7, ground := Ground.data }, { on := 10, ground := Ground.data }], guard := none }) (v := ?vT22x12) rfl (by kernel_rfl) (by kernel_rfl) (by kernel_rfl) (fun _ _ _ h => h) (Or.inl ⟨by rfl, ?hyT22x12⟩) (by exact hS) ?rsT22x12
          case hyT22x12 => (intro w hSw; (try dsimp only at hSw); unfold Rl.SN at hSw; go_simp; try with_reducible rfl)
          try simp only [Act.put, List.setIfInBounds_toArray, List.set_cons_zero, List.set_cons_succ]
          refine wpAnyH_take (i := 12) (oi := { dst := some 54, op := Op.move (Operand.tmp 53), type := 4, pos := "law.go:135", after := #[{ on := 11, ground := Ground.data }, { on := 7, ground := Ground.chain }], guard := none }) (v := ?vT22x13) rfl (by kernel_rfl) (by kernel_rfl) (by kernel_rfl) (fun _ _ _ h => h) (Or.inl ⟨by rfl, ?hyT22x13⟩) (by exact hS) ?rsT22x13
          case hyT22x13 => (intro w hSw; (try dsimp only at hSw); unfold Rl.SN at hSw; go_simp; try with_reducible rfl)
          try simp only [Act.put, List.setIfInBounds_toArray, List.set_cons_zero, List.set_cons_succ]
          refine wpAnyH_take (i := 13) (oi := { dst := some 55, op := Op.move (Operand.tmp 8), type := 28, pos := "law.go:135", after := #[{ on := 12, ground := Ground.guard }], guard := some (12, true) }) (v := ?vT22x14) rfl (by kernel_rfl) (by kernel_rfl) (by kernel_rfl) (fun _ _ _ h => h) (Or.inl ⟨by rfl, ?hyT22x14⟩) (by exact hS) ?rsT22x14
          case hyT22x14 => (intro w hSw; (try dsimp only at hSw); unfold Rl.SN at hSw; go_simp; try with_reducible rfl)
          try simp only [Act.put, List.setIfInBounds_toArray, List.set_cons_zero, List.set_cons_succ]
          refine wpAnyH_take (i := 14) (oi := { dst := some 56, op := Op.binOp BinOp.eql 28 (Operand.tmp 55) (Operand.const (Value.int IntKind.i64 0)) 28, type := 4, pos := "law.go:135", after := #[{ on := 13, ground := Ground.data }, { on := 12, ground := Ground.guard }], guard := some (12, true) }) (v := ?vT22x15) rfl (by kernel_rfl) (by kernel_rfl) (by kernel_rfl) (fun _ _ _ h => h) (Or.inl ⟨by rfl, ?hyT22x15⟩) (by exact hS) ?rsT22x15
          case hyT22x15 => (intro w hSw; (try dsimp only at hSw); unfold Rl.SN at hSw; go_simp; try with_reducible rfl)
          try simp only [Act.put, List.setIfInBounds_toArray, List.set_cons_zero, List.set_cons_succ]
          refine wpAnyH_take (i := 15) (oi := { dst := some 57, op := Op.pick (Operand.tmp 54) (Operand.tmp 56) (Operand.const (Value.bool false)), type := 4, pos := "law.go:135", after := #[{ on := 12, ground := Ground.data }, { on := 14, ground := Ground.data }], guard := none }) (v := ?vT22x16) rfl (by kernel_rfl) (by kernel_rfl) (by kernel_rfl) (fun _ _ _ h => h) (Or.inl ⟨by rfl, ?hyT22x16⟩) (by exact hS) ?rsT22x16
          case hyT22x16 => (intro w hSw; (try dsimp only at hSw); unfold Rl.SN at hSw; go_simp; try with_reducible rfl)
          try simp only [Act.put, List.setIfInBounds_toArray, List.set_cons_zero, List.set_cons_succ]
          refine wpAnyH_take (i := 16) (oi := { dst := some 58, op := Op.move (Operand.tmp 57), type := 4, pos := "law.go:135", after := #[{ on := 15, ground := Ground.data }, { on := 12, ground := Ground.chain }], guard := none }) (v := ?vT22x17) rfl (by kernel_rfl) (by kernel_rfl) (by kernel_rfl) (fun _ _ _ h => h) (Or.inl ⟨by rfl, ?hyT22x17⟩) (by exact hS) ?rsT22x17
          case hyT22x17 => (intro w hSw; (try dsimp only at hSw); unfold Rl.SN at hSw; go_simp; try with_reducible rfl)
          try simp only [Act.put, List.setIfInBounds_toArray, List.set_cons_zero, List.set_cons_succ]
          refine wpAnyH_take (i := 17) (oi := { dst := some 59, op := Op.move (Operand.tmp 0), type := 3, pos := "law.go:135", after := #[{ on := 16, ground := Ground.guard }], guard := some (16, true) }) (v := ?vT22x18) rfl (by kernel_rfl) (by kernel_rfl) (by kernel_rfl) (fun _ _ _ h => h) (Or.inl ⟨by rfl, ?hyT22x18⟩) (by exact hS) ?rsT22x18
          case hyT22x18 => (intro w hSw; (try dsimp only at hSw); unfold Rl.SN at hSw; go_simp; try with_reducible rfl)
          try simp only [Act.put, List.setIfInBounds_toArray, List.set_cons_zero, List.set_cons_succ]
          refine wpAnyH_take (i := 20) (oi := { dst := some 62, op := Op.move (Operand.tmp 0), type := 3, pos := "law.go:135", after := #[{ on := 16, ground := Ground.guard }], guard := some (16, true) }) (v := ?vT22x19) rfl (by kernel_rfl) (by kernel_rfl) (by kernel_rfl) (fun _ _ _ h => h) (Or.inl ⟨by rfl, ?hyT22x19⟩) (by exact hS) ?rsT22x19
          case hyT22x19 => (intro w hSw; (try dsimp only at hSw); unfold Rl.SN at hSw; go_simp; try with_reducible rfl)
          try simp only [Act.put, List.setIfInBounds_toArray, List.set_cons_zero, List.set_cons_succ]
          refine wpAnyH_take (i := 21) (oi := { dst := some 63, op := Op.binOp BinOp.geq 3 (Operand.tmp 62) (Operand.const (Value.int IntKind.i64 0)) 3, type := 4, pos := "law.go:135", after := #[{ on := 20, ground := Ground.data }, { on := 16, ground := Ground.guard }], guard := some (16, true) }) (v := ?vT22x20) rfl (by kernel_rfl) (by kernel_rfl) (by kernel_rfl) (fun _ _ _ h => h) (Or.inl ⟨by rfl, ?hyT22x20⟩) (by exact hS) ?rsT22x20
          case hyT22x20 => (intro w hSw; (try dsimp only at hSw); unfold Rl.SN at hSw; go_simp; try with_reducible rfl)
          try simp only [Act.put, List.setIfInBounds_toArray, List.set_cons_zero, List.set_cons_succ]
          refine wpAnyH_ready (rs := [18]) (by kernel_rfl) (by simp) ?_
          refine (AllReadyH.cons (o := { dst := some 60, op := Op.call { callee := Callee.value (Operand.func 30), args := #[Operand.tmp 59], argTypes := #[3] }, type := 9, pos := "law.go:135", after := #[{ on := 17, ground := Ground.data }, { on := 16, ground := Ground.chain }, { on := 16, ground := Ground.guard }], guard := some (16, true) }) rfl (fun K hK => ?_) AllReadyH.nil)
          go_simp
          refine (HNX.out _).mono ?_
          rintro e yT22x21 ⟨rfl, hq⟩
          try (go_wp2_with fail)
          have hS2 := SQ.out _ (Q.trans (Rl.SN.here hS) hq)
          refine hK.out _ _ (by exact hS2) (fun hHeld => ?_)
          clear hK K hHeld hS hq
          have hS := hS2
          clear hS2
          try simp only [Act.put, List.setIfInBounds_toArray, List.set_cons_zero, List.set_cons_succ]
          refine wpAnyH_take (i := 19) (oi := { dst := some 61, op := Op.binOp BinOp.neq 9 (Operand.tmp 60) (Operand.const (Value.string { data := #[] })) 9, type := 4, pos := "law.go:135", after := #[{ on := 18, ground := Ground.data }, { on := 16, ground := Ground.guard }], guard := some (16, true) }) (v := ?vT22x22) rfl (by kernel_rfl) (by kernel_rfl) (by kernel_rfl) (fun _ _ _ h => h) (Or.inl ⟨by rfl, ?hyT22x22⟩) (by exact hS) ?rsT22x22
          case hyT22x22 => (intro w hSw; (try dsimp only at hSw); unfold Rl.SN at hSw; go_simp; try with_reducible rfl)
          try simp only [Act.put, List.setIfInBounds_toArray, List.set_cons_zero, List.set_cons_succ]
          refine wpAnyH_take (i := 22) (oi := { dst := some 64, op := Op.move (Operand.tmp 63), type := 4, pos := "law.go:135", after := #[{ on := 21, ground := Ground.data }, { on := 18, ground := Ground.chain }, { on := 16, ground := Ground.guard }], guard := some (16, true) }) (v := ?vT22x23) rfl (by kernel_rfl) (by kernel_rfl) (by kernel_rfl) (fun _ _ _ h => h) (Or.inl ⟨by rfl, ?hyT22x23⟩) (by exact hS) ?rsT22x23
          case hyT22x23 => (intro w hSw; (try dsimp only at hSw); unfold Rl.SN at hSw; go_simp; try with_reducible rfl)
          try simp only [Act.put, List.setIfInBounds_toArray, List.set_cons_zero, List.set_cons_succ]
          refine wpAnyH_take (i := 23) (oi := { dst := some 65, op := Op.move (Operand.tmp 0), type := 3, pos := "law.go:135", after := #[{ on := 22, ground := Ground.guard }], guard := some (22, true) }) (v := undef) rfl (by kernel_rfl) (by kernel_rfl) (by kernel_rfl) (fun _ _ _ h => h) (Or.inr ⟨by rfl, rfl⟩) (by exact hS) ?_
          try simp only [Act.put, List.setIfInBounds_toArray, List.set_cons_zero, List.set_cons_succ]
          refine wpAnyH_take (i := 24) (oi := { dst := some 66, op := Op.binOp BinOp.lss 3 (Operand.tmp 65) (Operand.const (Value.int IntKind.i64 7)) 3, type := 4, pos := "law.go:135", after := #[{ on := 23, ground := Ground.data }, { on := 22, ground := Ground.guard }], guard := some (22, true) }) (v := undef) rfl (by kernel_rfl) (by kernel_rfl) (by kernel_rfl) (fun _ _ _ h => h) (Or.inr ⟨by rfl, rfl⟩) (by exact hS) ?_
          try simp only [Act.put, List.setIfInBounds_toArray, List.set_cons_zero, List.set_cons_succ]
          refine wpAnyH_take (i := 25) (oi := { dst := some 67, op := Op.pick (Operand.tmp 64) (Operand.tmp 66) (Operand.const (Value.bool false)), type := 4, pos := "law.go:135", after := #[{ on := 22, ground := Ground.data }, { on := 24, ground := Ground.data }, { on := 16, ground := Ground.guard }], guard := some (16, true) }) (v := ?vT22x26) rfl (by kernel_rfl) (by kernel_rfl) (by kernel_rfl) (fun _ _ _ h => h) (Or.inl ⟨by rfl, ?hyT22x26⟩) (by exact hS) ?rsT22x26
          case hyT22x26 => (intro w hSw; (try dsimp only at hSw); unfold Rl.SN at hSw; go_simp; try with_reducible rfl)
          try simp only [Act.put, List.setIfInBounds_toArray, List.set_cons_zero, List.set_cons_succ]
          refine wpAnyH_take (i := 26) (oi := { dst := some 68, op := Op.binOp BinOp.eql 4 (Operand.tmp 61) (Operand.tmp 67) 4, type := 4, pos := "law.go:135", after := #[{ on := 19, ground := Ground.data }, { on := 25, ground := Ground.data }, { on := 16, ground := Ground.guard }], guard := some (16, true) }) (v := ?vT22x27) rfl (by kernel_rfl) (by kernel_rfl) (by kernel_rfl) (fun _ _ _ h => h) (Or.inl ⟨by rfl, ?hyT22x27⟩) (by exact hS) ?rsT22x27
          case hyT22x27 => (intro w hSw; (try dsimp only at hSw); unfold Rl.SN at hSw; go_simp; try with_reducible rfl)
          try simp only [Act.put, List.setIfInBounds_toArray, List.set_cons_zero, List.set_cons_succ]
          refine wpAnyH_take (i := 27) (oi := { dst := some 69, op := Op.pick (Operand.tmp 58) (Operand.tmp 68) (Operand.const (Value.bool false)), type := 4, pos := "law.go:135", after := #[{ on := 16, ground := Ground.data }, { on := 26, ground := Ground.data }], guard := none }) (v := ?vT22x28) rfl (by kernel_rfl) (by kernel_rfl) (by kernel_rfl) (fun _ _ _ h => h) (Or.inl ⟨by rfl, ?hyT22x28⟩) (by exact hS) ?rsT22x28
          case hyT22x28 => (intro w hSw; (try dsimp only at hSw); unfold Rl.SN at hSw; go_simp; try with_reducible rfl)
          try simp only [Act.put, List.setIfInBounds_toArray, List.set_cons_zero, List.set_cons_succ]
          refine wpAnyH_take (i := 28) (oi := { dst := some 70, op := Op.move (Operand.tmp 69), type := 4, pos := "law.go:135", after := #[{ on := 27, ground := Ground.data }, { on := 22, ground := Ground.chain }], guard := none }) (v := ?vT22x29) rfl (by kernel_rfl) (by kernel_rfl) (by kernel_rfl) (fun _ _ _ h => h) (Or.inl ⟨by rfl, ?hyT22x29⟩) (by exact hS) ?rsT22x29
          case hyT22x29 => (intro w hSw; (try dsimp only at hSw); unfold Rl.SN at hSw; go_simp; try with_reducible rfl)
          try simp only [Act.put, List.setIfInBounds_toArray, List.set_cons_zero, List.set_cons_succ]
          refine wpAnyH_take (i := 29) (oi := { dst := some 71, op := Op.move (Operand.tmp 12), type := 28, pos := "law.go:135", after := #[{ on := 28, ground := Ground.guard }], guard := some (28, true) }) (v := ?vT22x30) rfl (by kernel_rfl) (by kernel_rfl) (by kernel_rfl) (fun _ _ _ h => h) (Or.inl ⟨by rfl, ?hyT22x30⟩) (by exact hS) ?rsT22x30
          case hyT22x30 => (intro w hSw; (try dsimp only at hSw); unfold Rl.SN at hSw; go_simp; try with_reducible rfl)
          try simp only [Act.put, List.setIfInBounds_toArray, List.set_cons_zero, List.set_cons_succ]
          refine wpAnyH_take (i := 30) (oi := { dst := some 72, op := Op.binOp BinOp.eql 28 (Operand.tmp 71) (Operand.const (Value.int IntKind.i64 0)) 28, type := 4, pos := "law.go:135", after := #[{ on := 29, ground := Ground.data }, { on := 28, ground := Ground.guard }], guard := some (28, true) }) (v := ?vT22x31) rfl (by kernel_rfl) (by kernel_rfl) (by kernel_rfl) (fun _ _ _ h => h) (Or.inl ⟨by rfl, ?hyT22x31⟩) (by exact hS) ?rsT22x31
          case hyT22x31 => (intro w hSw; (try dsimp only at hSw); unfold Rl.SN at hSw; go_simp; try with_reducible rfl)
          try simp only [Act.put, List.setIfInBounds_toArray, List.set_cons_zero, List.set_cons_succ]
          refine wpAnyH_take (i := 31) (oi := { dst := some 73, op := Op.move (Operand.tmp 9), type := 3, pos := "law.go:135", after := #[{ on := 28, ground := Ground.guard }], guard := some (28, true) }) (v := ?vT22x32) rfl (by kernel_rfl) (by kernel_rfl) (by kernel_rfl) (fun _ _ _ h => h) (Or.inl ⟨by rfl, ?hyT22x32⟩) (by exact hS) ?rsT22x32
          case hyT22x32 => (intro w hSw; (try dsimp only at hSw); unfold Rl.SN at hSw; go_simp; try with_reducible rfl)
          try simp only [Act.put, List.setIfInBounds_toArray, List.set_cons_zero, List.set_cons_succ]
          refine wpAnyH_take (i := 32) (oi := { dst := some 74, op := Op.binOp BinOp.geq 3 (Operand.tmp 73) (Operand.const (Value.int IntKind.i64 0)) 3, type := 4, pos := "law.go:135", after := #[{ on := 31, ground := Ground.data }, { on := 28, ground := Ground.guard }], guard := some (28, true) }) (v := ?vT22x33) rfl (by kernel_rfl) (by kernel_rfl) (by kernel_rfl) (fun _ _ _ h => h) (Or.inl ⟨by rfl, ?hyT22x33⟩) (by exact hS) ?rsT22x33
          case hyT22x33 => (intro w hSw; (try dsimp only at hSw); unfold Rl.SN at hSw; go_simp; try with_reducible rfl)
          try simp only [Act.put, List.setIfInBounds_toArray, List.set_cons_zero, List.set_cons_succ]
          refine wpAnyH_take (i := 33) (oi := { dst := some 75, op := Op.binOp BinOp.eql 4 (Operand.tmp 72) (Operand.tmp 74) 4, type := 4, pos := "law.go:135", after := #[{ on := 30, ground := Ground.data }, { on := 32, ground := Ground.data }, { on := 28, ground := Ground.guard }], guard := some (28, true) }) (v := ?vT22x34) rfl (by kernel_rfl) (by kernel_rfl) (by kernel_rfl) (fun _ _ _ h => h) (Or.inl ⟨by rfl, ?hyT22x34⟩) (by exact hS) ?rsT22x34
          case hyT22x34 => (intro w hSw; (try dsimp only at hSw); unfold Rl.SN at hSw; go_simp; try with_reducible rfl)
          try simp only [Act.put, List.setIfInBounds_toArray, List.set_cons_zero, List.set_cons_succ]
          refine wpAnyH_take (i := 34) (oi := { dst := some 76, op := Op.pick (Operand.tmp 70) (Operand.tmp 75) (Operand.const (Value.bool false)), type := 4, pos := "law.go:135", after := #[{ on := 28, ground := Ground.data }, { on := 33, ground := Ground.data }], guard := none }) (v := ?vT22x35) rfl (by kernel_rfl) (by kernel_rfl) (by kernel_rfl) (fun _ _ _ h => h) (Or.inl ⟨by rfl, ?hyT22x35⟩) (by exact hS) ?rsT22x35
          case hyT22x35 => (intro w hSw; (try dsimp only at hSw); unfold Rl.SN at hSw; go_simp; try with_reducible rfl)
          try simp only [Act.put, List.setIfInBounds_toArray, List.set_cons_zero, List.set_cons_succ]
          refine wpAnyH_take (i := 35) (oi := { dst := some 77, op := Op.move (Operand.tmp 76), type := 4, pos := "law.go:135", after := #[{ on := 34, ground := Ground.data }, { on := 28, ground := Ground.chain }], guard := none }) (v := ?vT22x36) rfl (by kernel_rfl) (by kernel_rfl) (by kernel_rfl) (fun _ _ _ h => h) (Or.inl ⟨by rfl, ?hyT22x36⟩) (by exact hS) ?rsT22x36
          case hyT22x36 => (intro w hSw; (try dsimp only at hSw); unfold Rl.SN at hSw; go_simp; try with_reducible rfl)
          try simp only [Act.put, List.setIfInBounds_toArray, List.set_cons_zero, List.set_cons_succ]
          refine wpAnyH_take (i := 36) (oi := { dst := some 78, op := Op.move (Operand.tmp 11), type := 3, pos := "law.go:135", after := #[{ on := 35, ground := Ground.guard }], guard := some (35, true) }) (v := ?vT22x37) rfl (by kernel_rfl) (by kernel_rfl) (by kernel_rfl) (fun _ _ _ h => h) (Or.inl ⟨by rfl, ?hyT22x37⟩) (by exact hS) ?rsT22x37
          case hyT22x37 => (intro w hSw; (try dsimp only at hSw); unfold Rl.SN at hSw; go_simp; try with_reducible rfl)
          try simp only [Act.put, List.setIfInBounds_toArray, List.set_cons_zero, List.set_cons_succ]
          refine wpAnyH_take (i := 37) (oi := { dst := some 79, op := Op.move (Operand.tmp 9), type := 3, pos := "law.go:135", after := #[{ on := 35, ground := Ground.guard }], guard := some (35, true) }) (v := ?vT22x38) rfl (by kernel_rfl) (by kernel_rfl) (by kernel_rfl) (fun _ _ _ h => h) (Or.inl ⟨by rfl, ?hyT22x38⟩) (by exact hS) ?rsT22x38
          case hyT22x38 => (intro w hSw; (try dsimp only at hSw); unfold Rl.SN at hSw; go_simp; try with_reducible rfl)
          try simp only [Act.put, List.setIfInBounds_toArray, List.set_cons_zero, List.set_cons_succ]
          refine wpAnyH_take (i := 38) (oi := { dst := some 80, op := Op.call { callee := Callee.builtin Builtin.max, args := #[Operand.tmp 79, Operand.const (Value.int IntKind.i64 0)], argTypes := #[3, 3] }, type := 3, pos := "law.go:135", after := #[{ on := 37, ground := Ground.data }, { on := 35, ground := Ground.guard }], guard := some (35, true) }) (v := ?vT22x39) rfl (by kernel_rfl) (by kernel_rfl) (by kernel_rfl) (fun _ _ _ h => h) (Or.inl ⟨by rfl, ?hyT22x39⟩) (by exact hS) ?rsT22x39
          case hyT22x39 => (intro w hSw; (try dsimp only at hSw); unfold Rl.SN at hSw; go_simp; try with_reducible rfl)
          try simp only [Act.put, List.setIfInBounds_toArray, List.set_cons_zero, List.set_cons_succ]
          refine wpAnyH_take (i := 39) (oi := { dst := some 81, op := Op.binOp BinOp.eql 3 (Operand.tmp 78) (Operand.tmp 80) 3, type := 4, pos := "law.go:135", after := #[{ on := 36, ground := Ground.data }, { on := 38, ground := Ground.data }, { on := 35, ground := Ground.guard }], guard := some (35, true) }) (v := ?vT22x40) rfl (by kernel_rfl) (by kernel_rfl) (by kernel_rfl) (fun _ _ _ h => h) (Or.inl ⟨by rfl, ?hyT22x40⟩) (by exact hS) ?rsT22x40
          case hyT22x40 => (intro w hSw; (try dsimp only at hSw); unfold Rl.SN at hSw; go_simp; try with_reducible rfl)
          try simp only [Act.put, List.setIfInBounds_toArray, List.set_cons_zero, List.set_cons_succ]
          refine wpAnyH_take (i := 40) (oi := { dst := some 82, op := Op.pick (Operand.tmp 77) (Operand.tmp 81) (Operand.const (Value.bool false)), type := 4, pos := "law.go:135", after := #[{ on := 35, ground := Ground.data }, { on := 39, ground := Ground.data }], guard := none }) (v := ?vT22x41) rfl (by kernel_rfl) (by kernel_rfl) (by kernel_rfl) (fun _ _ _ h => h) (Or.inl ⟨by rfl, ?hyT22x41⟩) (by exact hS) ?rsT22x41
          case hyT22x41 => (intro w hSw; (try dsimp only at hSw); unfold Rl.SN at hSw; go_simp; try with_reducible rfl)
          try simp only [Act.put, List.setIfInBounds_toArray, List.set_cons_zero, List.set_cons_succ]
          refine wpAnyH_take (i := 41) (oi := { dst := some 83, op := Op.move (Operand.tmp 82), type := 4, pos := "law.go:135", after := #[{ on := 40, ground := Ground.data }, { on := 35, ground := Ground.chain }], guard := none }) (v := ?vT22x42) rfl (by kernel_rfl) (by kernel_rfl) (by kernel_rfl) (fun _ _ _ h => h) (Or.inl ⟨by rfl, ?hyT22x42⟩) (by exact hS) ?rsT22x42
          case hyT22x42 => (intro w hSw; (try dsimp only at hSw); unfold Rl.SN at hSw; go_simp; try with_reducible rfl)
          try simp only [Act.put, List.setIfInBounds_toArray, List.set_cons_zero, List.set_cons_succ]
          refine wpAnyH_take (i := 42) (oi := { dst := some 84, op := Op.move (Operand.tmp 9), type := 3, pos := "law.go:135", after := #[{ on := 41, ground := Ground.guard }], guard := some (41, true) }) (v := ?vT22x43) rfl (by kernel_rfl) (by kernel_rfl) (by kernel_rfl) (fun _ _ _ h => h) (Or.inl ⟨by rfl, ?hyT22x43⟩) (by exact hS) ?rsT22x43
          case hyT22x43 => (intro w hSw; (try dsimp only at hSw); unfold Rl.SN at hSw; go_simp; try with_reducible rfl)
          try simp only [Act.put, List.setIfInBounds_toArray, List.set_cons_zero, List.set_cons_succ]
          refine wpAnyH_take (i := 43) (oi := { dst := some 85, op := Op.binOp BinOp.geq 3 (Operand.tmp 84) (Operand.const (Value.int IntKind.i64 0)) 3, type := 4, pos := "law.go:135", after := #[{ on := 42, ground := Ground.data }, { on := 41, ground := Ground.guard }], guard := some (41, true) }) (v := ?vT22x44) rfl (by kernel_rfl) (by kernel_rfl) (by kernel_rfl) (fun _ _ _ h => h) (Or.inl ⟨by rfl, ?hyT22x44⟩) (by exact hS) ?rsT22x44
          case hyT22x44 => (intro w hSw; (try dsimp only at hSw); unfold Rl.SN at hSw; go_simp; try with_reducible rfl)
          try simp only [Act.put, List.setIfInBounds_toArray, List.set_cons_zero, List.set_cons_succ]
          refine wpAnyH_take (i := 44) (oi := { dst := some 86, op := Op.move (Operand.tmp 85), type := 4, pos := "law.go:135", after := #[{ on := 43, ground := Ground.data }, { on := 41, ground := Ground.chain }, { on := 41, ground := Ground.guard }], guard := some (41, true) }) (v := ?vT22x45) rfl (by kernel_rfl) (by kernel_rfl) (by kernel_rfl) (fun _ _ _ h => h) (Or.inl ⟨by rfl, ?hyT22x45⟩) (by exact hS) ?rsT22x45
          case hyT22x45 => (intro w hSw; (try dsimp only at hSw); unfold Rl.SN at hSw; go_simp; try with_reducible rfl)
          try simp only [Act.put, List.setIfInBounds_toArray, List.set_cons_zero, List.set_cons_succ]
          refine wpAnyH_take (i := 45) (oi := { dst := some 87, op := Op.move (Operand.tmp 12), type := 28, pos := "law.go:135", after := #[{ on := 44, ground := Ground.guard }], guard := some (44, false) }) (v := ?vT22x46) rfl (by kernel_rfl) (by kernel_rfl) (by kernel_rfl) (fun _ _ _ h => h) (Or.inl ⟨by rfl, ?hyT22x46⟩) (by exact hS) ?rsT22x46
          case hyT22x46 => (intro w hSw; (try dsimp only at hSw); unfold Rl.SN at hSw; go_simp; try with_reducible rfl)
          try simp only [Act.put, List.setIfInBounds_toArray, List.set_cons_zero, List.set_cons_succ]
          refine wpAnyH_take (i := 46) (oi := { dst := some 88, op := Op.binOp BinOp.eql 28 (Operand.tmp 87) (Operand.const (Value.int IntKind.i64 7)) 28, type := 4, pos := "law.go:135", after := #[{ on := 45, ground := Ground.data }, { on := 44, ground := Ground.guard }], guard := some (44, false) }) (v := ?vT22x47) rfl (by kernel_rfl) (by kernel_rfl) (by kernel_rfl) (fun _ _ _ h => h) (Or.inl ⟨by rfl, ?hyT22x47⟩) (by exact hS) ?rsT22x47
          case hyT22x47 => (intro w hSw; (try dsimp only at hSw); unfold Rl.SN at hSw; go_simp; try with_reducible rfl)
          try simp only [Act.put, List.setIfInBounds_toArray, List.set_cons_zero, List.set_cons_succ]
          refine wpAnyH_take (i := 47) (oi := { dst := some 89, op := Op.pick (Operand.tmp 86) (Operand.const (Value.bool true)) (Operand.tmp 88), type := 4, pos := "law.go:135", after := #[{ on := 44, ground := Ground.data }, { on := 46, ground := Ground.data }, { on := 41, ground := Ground.guard }], guard := some (41, true) }) (v := ?vT22x48) rfl (by kernel_rfl) (by kernel_rfl) (by kernel_rfl) (fun _ _ _ h => h) (Or.inl ⟨by rfl, ?hyT22x48⟩) (by exact hS) ?rsT22x48
          case hyT22x48 => (intro w hSw; (try dsimp only at hSw); unfold Rl.SN at hSw; go_simp; try with_reducible rfl)
          try simp only [Act.put, List.setIfInBounds_toArray, List.set_cons_zero, List.set_cons_succ]
          refine wpAnyH_take (i := 48) (oi := { dst := some 90, op := Op.pick (Operand.tmp 83) (Operand.tmp 89) (Operand.const (Value.bool false)), type := 4, pos := "law.go:135", after := #[{ on := 41, ground := Ground.data }, { on := 47, ground := Ground.data }], guard := none }) (v := ?vT22x49) rfl (by kernel_rfl) (by kernel_rfl) (by kernel_rfl) (fun _ _ _ h => h) (Or.inl ⟨by rfl, ?hyT22x49⟩) (by exact hS) ?rsT22x49
          case hyT22x49 => (intro w hSw; (try dsimp only at hSw); unfold Rl.SN at hSw; go_simp; try with_reducible rfl)
          try simp only [Act.put, List.setIfInBounds_toArray, List.set_cons_zero, List.set_cons_succ]
          refine wpAnyH_take (i := 49) (oi := { dst := some 91, op := Op.move (Operand.tmp 90), type := 4, pos := "law.go:135", after := #[{ on := 48, ground := Ground.data }, { on := 44, ground := Ground.chain }], guard := none }) (v := ?vT22x50) rfl (by kernel_rfl) (by kernel_rfl) (by kernel_rfl) (fun _ _ _ h => h) (Or.inl ⟨by rfl, ?hyT22x50⟩) (by exact hS) ?rsT22x50
          case hyT22x50 => (intro w hSw; (try dsimp only at hSw); unfold Rl.SN at hSw; go_simp; try with_reducible rfl)
          try simp only [Act.put, List.setIfInBounds_toArray, List.set_cons_zero, List.set_cons_succ]
          refine wpAnyH_ready (rs := [50]) (by kernel_rfl) (by simp) ?_
          refine (AllReadyH.cons (o := { dst := some 92, op := Op.call { callee := Callee.value (Operand.func 18), args := #[], argTypes := #[] }, type := 4, pos := "law.go:135", after := #[{ on := 49, ground := Ground.chain }, { on := 49, ground := Ground.guard }], guard := some (49, true) }) rfl (fun K hK => ?_) AllReadyH.nil)
          go_simp
          refine (LV.out _).mono ?_
          rintro e yT22x51 ⟨rfl, hq⟩
          try (go_wp2_with fail)
          have hS2 := SQ.out _ (Q.trans (Rl.SN.here hS) hq)
          refine hK.out _ _ (by exact hS2) (fun hHeld => ?_)
          clear hK K hHeld hS hq
          have hS := hS2
          clear hS2
          try simp only [Act.put, List.setIfInBounds_toArray, List.set_cons_zero, List.set_cons_succ]
          refine wpAnyH_take (i := 51) (oi := { dst := some 93, op := Op.pick (Operand.tmp 91) (Operand.tmp 92) (Operand.const (Value.bool false)), type := 4, pos := "law.go:135", after := #[{ on := 49, ground := Ground.data }, { on := 50, ground := Ground.data }], guard := none }) (v := ?vT22x52) rfl (by kernel_rfl) (by kernel_rfl) (by kernel_rfl) (fun _ _ _ h => h) (Or.inl ⟨by rfl, ?hyT22x52⟩) (by exact hS) ?rsT22x52
          case hyT22x52 => (intro w hSw; (try dsimp only at hSw); unfold Rl.SN at hSw; go_simp; try with_reducible rfl)
          try simp only [Act.put, List.setIfInBounds_toArray, List.set_cons_zero, List.set_cons_succ]
          refine wpAnyH_take (i := 52) (oi := { dst := some 4, op := Op.assign (Operand.tmp 93), type := 4, pos := "law.go:135", after := #[{ on := 51, ground := Ground.data }, { on := 50, ground := Ground.chain }, { on := 0, ground := Ground.phase }, { on := 1, ground := Ground.phase }, { on := 2, ground := Ground.phase }, { on := 3, ground := Ground.phase }, { on := 4, ground := Ground.phase }, { on := 5, ground := Ground.phase }, { on := 6, ground := Ground.phase }, { on := 7, ground := Ground.phase }, { on := 8, ground := Ground.phase }, { on := 9, ground := Ground.phase }, { on := 10, ground := Ground.phase }, { on := 11, ground := Ground.phase }, { on := 12, ground := Ground.phase }, { on := 13, ground := Ground.phase }, { on := 14, ground := Ground.phase }, { on := 15, ground := Ground.phase }, { on := 16, ground := Ground.phase }, { on := 17, ground := Ground.phase }, { on := 18, ground := Ground.phase }, { on := 19, ground := Ground.phase }, { on := 20, ground := Ground.phase }, { on := 21, ground := Ground.phase }, { on := 22, ground := Ground.phase }, { on := 23, ground := Ground.phase }, { on := 24, ground := Ground.phase }, { on := 25, ground := Ground.phase }, { on := 26, ground := Ground.phase }, { on := 27, ground := Ground.phase }, { on := 28, ground := Ground.phase }, { on := 29, ground := Ground.phase }, { on := 30, ground := Ground.phase }, { on := 31, ground := Ground.phase }, { on := 32, ground := Ground.phase }, { on := 33, ground := Ground.phase }, { on := 34, ground := Ground.phase }, { on := 35, ground := Ground.phase }, { on := 36, ground := Ground.phase }, { on := 37, ground := Ground.phase }, { on := 38, ground := Ground.phase }, { on := 39, ground := Ground.phase }, { on := 40, ground := Ground.phase }, { on := 41, ground := Ground.phase }, { on := 42, ground := Ground.phase }, { on := 43, ground := Ground.phase }, { on := 44, ground := Ground.phase }, { on := 45, ground := Ground.phase }, { on := 46, ground := Ground.phase }, { on := 47, ground := Ground.phase }, { on := 48, ground := Ground.phase }, { on := 49, ground := Ground.phase }, { on := 50, ground := Ground.phase }, { on := 51, ground := Ground.phase }], guard := none }) (v := ?vT22x53) rfl (by kernel_rfl) (by kernel_rfl) (by kernel_rfl) (fun _ _ _ h => h) (Or.inl ⟨by rfl, ?hyT22x53⟩) (by exact hS) ?rsT22x53
          case hyT22x53 => (intro w hSw; (try dsimp only at hSw); unfold Rl.SN at hSw; go_simp; try with_reducible rfl)
          try simp only [Act.put, List.setIfInBounds_toArray, List.set_cons_zero, List.set_cons_succ]
          refine wpAnyH_done (by kernel_rfl) ?_ _
          have HQE := Lib.hid (Q2.out.trans (Rl.SN.here hS))
          clear hS SQ
          go_wp2_with fail
          go_ret
          exact ⟨rfl, HQE.out⟩
        · have HNX := HN2.out
          rw [Rm.nm_in] at HNX
          have hne := Rm.nm_ne k hk
          generalize Rm.nms.getD k ⟨#[]⟩ = xk at *
          have HNX := Lib.hid HNX
          have hk1 : (k : Int) < 7 := by omega
          have HM2 := Lib.hid H2
          clear H2
          go_wp2_with fail
          refine (HM2.out _).mono ?_
          rintro e z2 ⟨rfl, hq2⟩
          have HB2 := Lib.hid ((Q.block hq2 (lt_of_block HB.out)).trans HB.out)
          have Q2 := Lib.hid (HQ.out.trans hq2)
          clear hq2 HB HQ
          have SQ := Lib.hid (fun u (q : Q z2 u) => (⟨HCM.out u ((Q.block q (lt_of_block HB2.out)).trans HB2.out), q⟩ : Rl.SN z2 w.heap.size m x0 u))
          go_wp2_with fail
          refine wp_region_held_drew (S := fun u => Rl.SN z2 w.heap.size m x0 u) (by kernel_rfl) (by exact SQ.out _ ((Q.refl z2).drew)) (fun hHeld => ?_)
          have hS : Rl.SN z2 w.heap.size m x0 z2.drew := hHeld
          clear hHeld
          generalize z2.drew = yT23x0 at hS ⊢
          refine wpAnyH_take (i := 0) (oi := { dst := some 42, op := Op.move (Operand.tmp 6), type := 3, pos := "law.go:135", after := #[], guard := none }) (v := ?vT23x1) rfl (by kernel_rfl) (by kernel_rfl) (by kernel_rfl) (fun _ _ _ h => h) (Or.inl ⟨by rfl, ?hyT23x1⟩) (by exact hS) ?rsT23x1
          case hyT23x1 => (intro w hSw; (try dsimp only at hSw); unfold Rl.SN at hSw; go_simp; try with_reducible rfl)
          try simp only [Act.put, List.setIfInBounds_toArray, List.set_cons_zero, List.set_cons_succ]
          refine wpAnyH_take (i := 2) (oi := { dst := some 44, op := Op.move (Operand.tmp 5), type := 50, pos := "law.go:135", after := #[], guard := none }) (v := ?vT23x2) rfl (by kernel_rfl) (by kernel_rfl) (by kernel_rfl) (fun _ _ _ h => h) (Or.inl ⟨by rfl, ?hyT23x2⟩) (by exact hS) ?rsT23x2
          case hyT23x2 => (intro w hSw; (try dsimp only at hSw); unfold Rl.SN at hSw; go_simp; try with_reducible rfl)
          try simp only [Act.put, List.setIfInBounds_toArray, List.set_cons_zero, List.set_cons_succ]
          refine wpAnyH_take (i := 3) (oi := { dst := some 45, op := Op.move (Operand.tmp 6), type := 3, pos := "law.go:135", after := #[], guard := none }) (v := ?vT23x3) rfl (by kernel_rfl) (by kernel_rfl) (by kernel_rfl) (fun _ _ _ h => h) (Or.inl ⟨by rfl, ?hyT23x3⟩) (by exact hS) ?rsT23x3
          case hyT23x3 => (intro w hSw; (try dsimp only at hSw); unfold Rl.SN at hSw; go_simp; try with_reducible rfl)
          try simp only [Act.put, List.setIfInBounds_toArray, List.set_cons_zero, List.set_cons_succ]
          refine wpAnyH_take (i := 4) (oi := { dst := some 46, op := Op.indexAddr 50 (Operand.tmp 44) (Operand.tmp 45), type := 0, pos := "law.go:135", after := #[{ on := 2, ground := Ground.data }, { on := 3, ground := Ground.data }], guard := none }) (v := ?vT23x4) rfl (by kernel_rfl) (by kernel_rfl) (by kernel_rfl) (fun _ _ _ h => h) (Or.inl ⟨by rfl, ?hyT23x4⟩) (by exact hS) ?rsT23x4
          case hyT23x4 => (intro w hSw; (try dsimp only at hSw); unfold Rl.SN at hSw; go_simp; try with_reducible rfl)
          try simp only [Act.put, List.setIfInBounds_toArray, List.set_cons_zero, List.set_cons_succ]
          refine wpAnyH_take (i := 5) (oi := { dst := some 47, op := Op.load 9 (Operand.tmp 46), type := 9, pos := "law.go:135", after := #[{ on := 4, ground := Ground.data }], guard := none }) (v := ?vT23x5) rfl (by kernel_rfl) (by kernel_rfl) (by kernel_rfl) (fun _ _ _ h => h) (Or.inl ⟨by rfl, ?hyT23x5⟩) (by exact hS) ?rsT23x5
          case hyT23x5 => (intro w hSw; (try dsimp only at hSw); unfold Rl.SN at hSw; go_simp; try with_reducible rfl)
          try simp only [Act.put, List.setIfInBounds_toArray, List.set_cons_zero, List.set_cons_succ]
          refine wpAnyH_ready (rs := [1]) (by kernel_rfl) (by simp) ?_
          refine (AllReadyH.cons (o := { dst := some 43, op := Op.call { callee := Callee.value (Operand.func 30), args := #[Operand.tmp 42], argTypes := #[3] }, type := 9, pos := "law.go:135", after := #[{ on := 0, ground := Ground.data }], guard := none }) rfl (fun K hK => ?_) AllReadyH.nil)
          go_simp
          refine (HN1.out _).mono ?_
          rintro e yT23x6 ⟨rfl, hq⟩
          try (go_wp2_with fail)
          have hS2 := SQ.out _ (Q.trans (Rl.SN.here hS) hq)
          refine hK.out _ _ (by exact hS2) (fun hHeld => ?_)
          clear hK K hHeld hS hq
          have hS := hS2
          clear hS2
          try simp only [Act.put, List.setIfInBounds_toArray, List.set_cons_zero, List.set_cons_succ]
          refine wpAnyH_take (i := 6) (oi := { dst := some 48, op := Op.binOp BinOp.eql 9 (Operand.tmp 43) (Operand.tmp 47) 9, type := 4, pos := "law.go:135", after := #[{ on := 1, ground := Ground.data }, { on := 5, ground := Ground.data }], guard := none }) (v := ?vT23x7) rfl (by kernel_rfl) (by kernel_rfl) (by kernel_rfl) (fun _ _ _ h => h) (Or.inl ⟨by rfl, ?hyT23x7⟩) (by exact hS) ?rsT23x7
          case hyT23x7 => (intro w hSw; (try dsimp only at hSw); unfold Rl.SN at hSw; go_simp; try with_reducible rfl)
          try simp only [Act.put, List.setIfInBounds_toArray, List.set_cons_zero, List.set_cons_succ]
          refine wpAnyH_take (i := 7) (oi := { dst := some 49, op := Op.move (Operand.tmp 48), type := 4, pos := "law.go:135", after := #[{ on := 6, ground := Ground.data }, { on := 1, ground := Ground.chain }], guard := none }) (v := ?vT23x8) rfl (by kernel_rfl) (by kernel_rfl) (by kernel_rfl) (fun _ _ _ h => h) (Or.inl ⟨by rfl, ?hyT23x8⟩) (by exact hS) ?rsT23x8
          case hyT23x8 => (intro w hSw; (try dsimp only at hSw); unfold Rl.SN at hSw; go_simp; try with_reducible rfl)
          try simp only [Act.put, List.setIfInBounds_toArray, List.set_cons_zero, List.set_cons_succ]
          refine wpAnyH_take (i := 8) (oi := { dst := some 50, op := Op.move (Operand.tmp 7), type := 3, pos := "law.go:135", after := #[{ on := 7, ground := Ground.guard }], guard := some (7, true) }) (v := ?vT23x9) rfl (by kernel_rfl) (by kernel_rfl) (by kernel_rfl) (fun _ _ _ h => h) (Or.inl ⟨by rfl, ?hyT23x9⟩) (by exact hS) ?rsT23x9
          case hyT23x9 => (intro w hSw; (try dsimp only at hSw); unfold Rl.SN at hSw; go_simp; try with_reducible rfl)
          try simp only [Act.put, List.setIfInBounds_toArray, List.set_cons_zero, List.set_cons_succ]
          refine wpAnyH_take (i := 9) (oi := { dst := some 51, op := Op.move (Operand.tmp 6), type := 3, pos := "law.go:135", after := #[{ on := 7, ground := Ground.guard }], guard := some (7, true) }) (v := ?vT23x10) rfl (by kernel_rfl) (by kernel_rfl) (by kernel_rfl) (fun _ _ _ h => h) (Or.inl ⟨by rfl, ?hyT23x10⟩) (by exact hS) ?rsT23x10
          case hyT23x10 => (intro w hSw; (try dsimp only at hSw); unfold Rl.SN at hSw; go_simp; try with_reducible rfl)
          try simp only [Act.put, List.setIfInBounds_toArray, List.set_cons_zero, List.set_cons_succ]
          refine wpAnyH_take (i := 10) (oi := { dst := some 52, op := Op.binOp BinOp.eql 3 (Operand.tmp 50) (Operand.tmp 51) 3, type := 4, pos := "law.go:135", after := #[{ on := 8, ground := Ground.data }, { on := 9, ground := Ground.data }, { on := 7, ground := Ground.guard }], guard := some (7, true) }) (v := ?vT23x11) rfl (by kernel_rfl) (by kernel_rfl) (by kernel_rfl) (fun _ _ _ h => h) (Or.inl ⟨by rfl, ?hyT23x11⟩) (by exact hS) ?rsT23x11
          case hyT23x11 => (intro w hSw; (try dsimp only at hSw); unfold Rl.SN at hSw; go_simp; try with_reducible rfl)
          try simp only [Act.put, List.setIfInBounds_toArray, List.set_cons_zero, List.set_cons_succ]
          refine wpAnyH_take (i := 11) (oi := { dst := some 53, op := Op.pick (Operand.tmp 49) (Operand.tmp 52) (Operand.const (Value.bool false)), type := 4, pos := "law.go:135", after := #[{ on := 7, ground := Ground.data }, { on := 10, ground := Ground.data }], guard := none }) (v := ?vT23x12) rfl (by kernel_rfl) (by kernel_rfl) (by kernel_rfl) (fun _ _ _ h => h) (Or.inl ⟨by rfl, ?hyT23x12⟩) (by exact hS) ?rsT23x12
          case hyT23x12 => (intro w hSw; (try dsimp only at hSw); unfold Rl.SN at hSw; go_simp; try with_reducible rfl)
          try simp only [Act.put, List.setIfInBounds_toArray, List.set_cons_zero, List.set_cons_succ]
          refine wpAnyH_take (i := 12) (oi := { dst := some 54, op := Op.move (Operand.tmp 53), type := 4, pos := "law.go:135", after := #[{ on := 11, ground := Ground.data }, { on := 7, ground := Ground.chain }], guard := none }) (v := ?vT23x13) rfl (by kernel_rfl) (by kernel_rfl) (by kernel_rfl) (fun _ _ _ h => h) (Or.inl ⟨by rfl, ?hyT23x13⟩) (by exact hS) ?rsT23x13
          case hyT23x13 => (intro w hSw; (try dsimp only at hSw); unfold Rl.SN at hSw; go_simp; try with_reducible rfl)
          try simp only [Act.put, List.setIfInBounds_toArray, List.set_cons_zero, List.set_cons_succ]
          refine wpAnyH_take (i := 13) (oi := { dst := some 55, op := Op.move (Operand.tmp 8), type := 28, pos := "law.go:135", after := #[{ on := 12, ground := Ground.guard }], guard := some (12, true) }) (v := ?vT23x14) rfl (by kernel_rfl) (by kernel_rfl) (by kernel_rfl) (fun _ _ _ h => h) (Or.inl ⟨by rfl, ?hyT23x14⟩) (by exact hS) ?rsT23x14
          case hyT23x14 => (intro w hSw; (try dsimp only at hSw); unfold Rl.SN at hSw; go_simp; try with_reducible rfl)
          try simp only [Act.put, List.setIfInBounds_toArray, List.set_cons_zero, List.set_cons_succ]
          refine wpAnyH_take (i := 14) (oi := { dst := some 56, op := Op.binOp BinOp.eql 28 (Operand.tmp 55) (Operand.const (Value.int IntKind.i64 0)) 28, type := 4, pos := "law.go:135", after := #[{ on := 13, ground := Ground.data }, { on := 12, ground := Ground.guard }], guard := some (12, true) }) (v := ?vT23x15) rfl (by kernel_rfl) (by kernel_rfl) (by kernel_rfl) (fun _ _ _ h => h) (Or.inl ⟨by rfl, ?hyT23x15⟩) (by exact hS) ?rsT23x15
          case hyT23x15 => (intro w hSw; (try dsimp only at hSw); unfold Rl.SN at hSw; go_simp; try with_reducible rfl)
          try simp only [Act.put, List.setIfInBounds_toArray, List.set_cons_zero, List.set_cons_succ]
          refine wpAnyH_take (i := 15) (oi := { dst := some 57, op := Op.pick (Operand.tmp 54) (Operand.tmp 56) (Operand.const (Value.bool false)), type := 4, pos := "law.go:135", after := #[{ on := 12, ground := Ground.data }, { on := 14, ground := Ground.data }], guard := none }) (v := ?vT23x16) rfl (by kernel_rfl) (by kernel_rfl) (by kernel_rfl) (fun _ _ _ h => h) (Or.inl ⟨by rfl, ?hyT23x16⟩) (by exact hS) ?rsT23x16
          case hyT23x16 => (intro w hSw; (try dsimp only at hSw); unfold Rl.SN at hSw; go_simp; try with_reducible rfl)
          try simp only [Act.put, List.setIfInBounds_toArray, List.set_cons_zero, List.set_cons_succ]
          refine wpAnyH_take (i := 16) (oi := { dst := some 58, op := Op.move (Operand.tmp 57), type := 4, pos := "law.go:135", after := #[{ on := 15, ground := Ground.data }, { on := 12, ground := Ground.chain }], guard := none }) (v := ?vT23x17) rfl (by kernel_rfl) (by kernel_rfl) (by kernel_rfl) (fun _ _ _ h => h) (Or.inl ⟨by rfl, ?hyT23x17⟩) (by exact hS) ?rsT23x17
          case hyT23x17 => (intro w hSw; (try dsimp only at hSw); unfold Rl.SN at hSw; go_simp; try with_reducible rfl)
          try simp only [Act.put, List.setIfInBounds_toArray, List.set_cons_zero, List.set_cons_succ]
          refine wpAnyH_take (i := 17) (oi := { dst := some 59, op := Op.move (Operand.tmp 0), type := 3, pos := "law.go:135", after := #[{ on := 16, ground := Ground.guard }], guard := some (16, true) }) (v := ?vT23x18) rfl (by kernel_rfl) (by kernel_rfl) (by kernel_rfl) (fun _ _ _ h => h) (Or.inl ⟨by rfl, ?hyT23x18⟩) (by exact hS) ?rsT23x18
          case hyT23x18 => (intro w hSw; (try dsimp only at hSw); unfold Rl.SN at hSw; go_simp; try with_reducible rfl)
          try simp only [Act.put, List.setIfInBounds_toArray, List.set_cons_zero, List.set_cons_succ]
          refine wpAnyH_take (i := 20) (oi := { dst := some 62, op := Op.move (Operand.tmp 0), type := 3, pos := "law.go:135", after := #[{ on := 16, ground := Ground.guard }], guard := some (16, true) }) (v := ?vT23x19) rfl (by kernel_rfl) (by kernel_rfl) (by kernel_rfl) (fun _ _ _ h => h) (Or.inl ⟨by rfl, ?hyT23x19⟩) (by exact hS) ?rsT23x19
          case hyT23x19 => (intro w hSw; (try dsimp only at hSw); unfold Rl.SN at hSw; go_simp; try with_reducible rfl)
          try simp only [Act.put, List.setIfInBounds_toArray, List.set_cons_zero, List.set_cons_succ]
          refine wpAnyH_take (i := 21) (oi := { dst := some 63, op := Op.binOp BinOp.geq 3 (Operand.tmp 62) (Operand.const (Value.int IntKind.i64 0)) 3, type := 4, pos := "law.go:135", after := #[{ on := 20, ground := Ground.data }, { on := 16, ground := Ground.guard }], guard := some (16, true) }) (v := ?vT23x20) rfl (by kernel_rfl) (by kernel_rfl) (by kernel_rfl) (fun _ _ _ h => h) (Or.inl ⟨by rfl, ?hyT23x20⟩) (by exact hS) ?rsT23x20
          case hyT23x20 => (intro w hSw; (try dsimp only at hSw); unfold Rl.SN at hSw; go_simp; try with_reducible rfl)
          try simp only [Act.put, List.setIfInBounds_toArray, List.set_cons_zero, List.set_cons_succ]
          refine wpAnyH_ready (rs := [18]) (by kernel_rfl) (by simp) ?_
          refine (AllReadyH.cons (o := { dst := some 60, op := Op.call { callee := Callee.value (Operand.func 30), args := #[Operand.tmp 59], argTypes := #[3] }, type := 9, pos := "law.go:135", after := #[{ on := 17, ground := Ground.data }, { on := 16, ground := Ground.chain }, { on := 16, ground := Ground.guard }], guard := some (16, true) }) rfl (fun K hK => ?_) AllReadyH.nil)
          go_simp
          refine (HNX.out _).mono ?_
          rintro e yT23x21 ⟨rfl, hq⟩
          try (go_wp2_with fail)
          have hS2 := SQ.out _ (Q.trans (Rl.SN.here hS) hq)
          refine hK.out _ _ (by exact hS2) (fun hHeld => ?_)
          clear hK K hHeld hS hq
          have hS := hS2
          clear hS2
          try simp only [Act.put, List.setIfInBounds_toArray, List.set_cons_zero, List.set_cons_succ]
          refine wpAnyH_take (i := 19) (oi := { dst := some 61, op := Op.binOp BinOp.neq 9 (Operand.tmp 60) (Operand.const (Value.string { data := #[] })) 9, type := 4, pos := "law.go:135", after := #[{ on := 18, ground := Ground.data }, { on := 16, ground := Ground.guard }], guard := some (16, true) }) (v := ?vT23x22) rfl (by kernel_rfl) (by kernel_rfl) (by kernel_rfl) (fun _ _ _ h => h) (Or.inl ⟨by rfl, ?hyT23x22⟩) (by exact hS) ?rsT23x22
          case hyT23x22 => (intro w hSw; (try dsimp only at hSw); unfold Rl.SN at hSw; go_simp; try with_reducible rfl)
          try simp only [Act.put, List.setIfInBounds_toArray, List.set_cons_zero, List.set_cons_succ]
          refine wpAnyH_take (i := 22) (oi := { dst := some 64, op := Op.move (Operand.tmp 63), type := 4, pos := "law.go:135", after := #[{ on := 21, ground := Ground.data }, { on := 18, ground := Ground.chain }, { on := 16, ground := Ground.guard }], guard := some (16, true) }) (v := ?vT23x23) rfl (by kernel_rfl) (by kernel_rfl) (by kernel_rfl) (fun _ _ _ h => h) (Or.inl ⟨by rfl, ?hyT23x23⟩) (by exact hS) ?rsT23x23
          case hyT23x23 => (intro w hSw; (try dsimp only at hSw); unfold Rl.SN at hSw; go_simp; try with_reducible rfl)
          try simp only [Act.put, List.setIfInBounds_toArray, List.set_cons_zero, List.set_cons_succ]
          refine wpAnyH_take (i := 23) (oi := { dst := some 65, op := Op.move (Operand.tmp 0), type := 3, pos := "law.go:135", after := #[{ on := 22, ground := Ground.guard }], guard := some (22, true) }) (v := ?vT23x24) rfl (by kernel_rfl) (by kernel_rfl) (by kernel_rfl) (fun _ _ _ h => h) (Or.inl ⟨by rfl, ?hyT23x24⟩) (by exact hS) ?rsT23x24
          case hyT23x24 => (intro w hSw; (try dsimp only at hSw); unfold Rl.SN at hSw; go_simp; try with_reducible rfl)
          try simp only [Act.put, List.setIfInBounds_toArray, List.set_cons_zero, List.set_cons_succ]
          refine wpAnyH_take (i := 24) (oi := { dst := some 66, op := Op.binOp BinOp.lss 3 (Operand.tmp 65) (Operand.const (Value.int IntKind.i64 7)) 3, type := 4, pos := "law.go:135", after := #[{ on := 23, ground := Ground.data }, { on := 22, ground := Ground.guard }], guard := some (22, true) }) (v := ?vT23x25) rfl (by kernel_rfl) (by kernel_rfl) (by kernel_rfl) (fun _ _ _ h => h) (Or.inl ⟨by rfl, ?hyT23x25⟩) (by exact hS) ?rsT23x25
          case hyT23x25 => (intro w hSw; (try dsimp only at hSw); unfold Rl.SN at hSw; go_simp; try with_reducible rfl)
          try simp only [Act.put, List.setIfInBounds_toArray, List.set_cons_zero, List.set_cons_succ]
          refine wpAnyH_take (i := 25) (oi := { dst := some 67, op := Op.pick (Operand.tmp 64) (Operand.tmp 66) (Operand.const (Value.bool false)), type := 4, pos := "law.go:135", after := #[{ on := 22, ground := Ground.data }, { on := 24, ground := Ground.data }, { on := 16, ground := Ground.guard }], guard := some (16, true) }) (v := ?vT23x26) rfl (by kernel_rfl) (by kernel_rfl) (by kernel_rfl) (fun _ _ _ h => h) (Or.inl ⟨by rfl, ?hyT23x26⟩) (by exact hS) ?rsT23x26
          case hyT23x26 => (intro w hSw; (try dsimp only at hSw); unfold Rl.SN at hSw; go_simp; try with_reducible rfl)
          try simp only [Act.put, List.setIfInBounds_toArray, List.set_cons_zero, List.set_cons_succ]
          refine wpAnyH_take (i := 26) (oi := { dst := some 68, op := Op.binOp BinOp.eql 4 (Operand.tmp 61) (Operand.tmp 67) 4, type := 4, pos := "law.go:135", after := #[{ on := 19, ground := Ground.data }, { on := 25, ground := Ground.data }, { on := 16, ground := Ground.guard }], guard := some (16, true) }) (v := ?vT23x27) rfl (by kernel_rfl) (by kernel_rfl) (by kernel_rfl) (fun _ _ _ h => h) (Or.inl ⟨by rfl, ?hyT23x27⟩) (by exact hS) ?rsT23x27
          case hyT23x27 => (intro w hSw; (try dsimp only at hSw); unfold Rl.SN at hSw; go_simp; try with_reducible rfl)
          try simp only [Act.put, List.setIfInBounds_toArray, List.set_cons_zero, List.set_cons_succ]
          refine wpAnyH_take (i := 27) (oi := { dst := some 69, op := Op.pick (Operand.tmp 58) (Operand.tmp 68) (Operand.const (Value.bool false)), type := 4, pos := "law.go:135", after := #[{ on := 16, ground := Ground.data }, { on := 26, ground := Ground.data }], guard := none }) (v := ?vT23x28) rfl (by kernel_rfl) (by kernel_rfl) (by kernel_rfl) (fun _ _ _ h => h) (Or.inl ⟨by rfl, ?hyT23x28⟩) (by exact hS) ?rsT23x28
          case hyT23x28 => (intro w hSw; (try dsimp only at hSw); unfold Rl.SN at hSw; go_simp; try with_reducible rfl)
          try simp only [Act.put, List.setIfInBounds_toArray, List.set_cons_zero, List.set_cons_succ]
          refine wpAnyH_take (i := 28) (oi := { dst := some 70, op := Op.move (Operand.tmp 69), type := 4, pos := "law.go:135", after := #[{ on := 27, ground := Ground.data }, { on := 22, ground := Ground.chain }], guard := none }) (v := ?vT23x29) rfl (by kernel_rfl) (by kernel_rfl) (by kernel_rfl) (fun _ _ _ h => h) (Or.inl ⟨by rfl, ?hyT23x29⟩) (by exact hS) ?rsT23x29
          case hyT23x29 => (intro w hSw; (try dsimp only at hSw); unfold Rl.SN at hSw; go_simp; try with_reducible rfl)
          try simp only [Act.put, List.setIfInBounds_toArray, List.set_cons_zero, List.set_cons_succ]
          refine wpAnyH_take (i := 29) (oi := { dst := some 71, op := Op.move (Operand.tmp 12), type := 28, pos := "law.go:135", after := #[{ on := 28, ground := Ground.guard }], guard := some (28, true) }) (v := ?vT23x30) rfl (by kernel_rfl) (by kernel_rfl) (by kernel_rfl) (fun _ _ _ h => h) (Or.inl ⟨by rfl, ?hyT23x30⟩) (by exact hS) ?rsT23x30
          case hyT23x30 => (intro w hSw; (try dsimp only at hSw); unfold Rl.SN at hSw; go_simp; try with_reducible rfl)
          try simp only [Act.put, List.setIfInBounds_toArray, List.set_cons_zero, List.set_cons_succ]
          refine wpAnyH_take (i := 30) (oi := { dst := some 72, op := Op.binOp BinOp.eql 28 (Operand.tmp 71) (Operand.const (Value.int IntKind.i64 0)) 28, type := 4, pos := "law.go:135", after := #[{ on := 29, ground := Ground.data }, { on := 28, ground := Ground.guard }], guard := some (28, true) }) (v := ?vT23x31) rfl (by kernel_rfl) (by kernel_rfl) (by kernel_rfl) (fun _ _ _ h => h) (Or.inl ⟨by rfl, ?hyT23x31⟩) (by exact hS) ?rsT23x31
          case hyT23x31 => (intro w hSw; (try dsimp only at hSw); unfold Rl.SN at hSw; go_simp; try with_reducible rfl)
          try simp only [Act.put, List.setIfInBounds_toArray, List.set_cons_zero, List.set_cons_succ]
          refine wpAnyH_take (i := 31) (oi := { dst := some 73, op := Op.move (Operand.tmp 9), type := 3, pos := "law.go:135", after := #[{ on := 28, ground := Ground.guard }], guard := some (28, true) }) (v := ?vT23x32) rfl (by kernel_rfl) (by kernel_rfl) (by kernel_rfl) (fun _ _ _ h => h) (Or.inl ⟨by rfl, ?hyT23x32⟩) (by exact hS) ?rsT23x32
          case hyT23x32 => (intro w hSw; (try dsimp only at hSw); unfold Rl.SN at hSw; go_simp; try with_reducible rfl)
          try simp only [Act.put, List.setIfInBounds_toArray, List.set_cons_zero, List.set_cons_succ]
          refine wpAnyH_take (i := 32) (oi := { dst := some 74, op := Op.binOp BinOp.geq 3 (Operand.tmp 73) (Operand.const (Value.int IntKind.i64 0)) 3, type := 4, pos := "law.go:135", after := #[{ on := 31, ground := Ground.data }, { on := 28, ground := Ground.guard }], guard := some (28, true) }) (v := ?vT23x33) rfl (by kernel_rfl) (by kernel_rfl) (by kernel_rfl) (fun _ _ _ h => h) (Or.inl ⟨by rfl, ?hyT23x33⟩) (by exact hS) ?rsT23x33
          case hyT23x33 => (intro w hSw; (try dsimp only at hSw); unfold Rl.SN at hSw; go_simp; try with_reducible rfl)
          try simp only [Act.put, List.setIfInBounds_toArray, List.set_cons_zero, List.set_cons_succ]
          refine wpAnyH_take (i := 33) (oi := { dst := some 75, op := Op.binOp BinOp.eql 4 (Operand.tmp 72) (Operand.tmp 74) 4, type := 4, pos := "law.go:135", after := #[{ on := 30, ground := Ground.data }, { on := 32, ground := Ground.data }, { on := 28, ground := Ground.guard }], guard := some (28, true) }) (v := ?vT23x34) rfl (by kernel_rfl) (by kernel_rfl) (by kernel_rfl) (fun _ _ _ h => h) (Or.inl ⟨by rfl, ?hyT23x34⟩) (by exact hS) ?rsT23x34
          case hyT23x34 => (intro w hSw; (try dsimp only at hSw); unfold Rl.SN at hSw; go_simp; try with_reducible rfl)
          try simp only [Act.put, List.setIfInBounds_toArray, List.set_cons_zero, List.set_cons_succ]
          refine wpAnyH_take (i := 34) (oi := { dst := some 76, op := Op.pick (Operand.tmp 70) (Operand.tmp 75) (Operand.const (Value.bool false)), type := 4, pos := "law.go:135", after := #[{ on := 28, ground := Ground.data }, { on := 33, ground := Ground.data }], guard := none }) (v := ?vT23x35) rfl (by kernel_rfl) (by kernel_rfl) (by kernel_rfl) (fun _ _ _ h => h) (Or.inl ⟨by rfl, ?hyT23x35⟩) (by exact hS) ?rsT23x35
          case hyT23x35 => (intro w hSw; (try dsimp only at hSw); unfold Rl.SN at hSw; go_simp; try with_reducible rfl)
          try simp only [Act.put, List.setIfInBounds_toArray, List.set_cons_zero, List.set_cons_succ]
          refine wpAnyH_take (i := 35) (oi := { dst := some 77, op := Op.move (Operand.tmp 76), type := 4, pos := "law.go:135", after := #[{ on := 34, ground := Ground.data }, { on := 28, ground := Ground.chain }], guard := none }) (v := ?vT23x36) rfl (by kernel_rfl) (by kernel_rfl) (by kernel_rfl) (fun _ _ _ h => h) (Or.inl ⟨by rfl, ?hyT23x36⟩) (by exact hS) ?rsT23x36
          case hyT23x36 => (intro w hSw; (try dsimp only at hSw); unfold Rl.SN at hSw; go_simp; try with_reducible rfl)
          try simp only [Act.put, List.setIfInBounds_toArray, List.set_cons_zero, List.set_cons_succ]
          refine wpAnyH_take (i := 36) (oi := { dst := some 78, op := Op.move (Operand.tmp 11), type := 3, pos := "law.go:135", after := #[{ on := 35, ground := Ground.guard }], guard := some (35, true) }) (v := ?vT23x37) rfl (by kernel_rfl) (by kernel_rfl) (by kernel_rfl) (fun _ _ _ h => h) (Or.inl ⟨by rfl, ?hyT23x37⟩) (by exact hS) ?rsT23x37
          case hyT23x37 => (intro w hSw; (try dsimp only at hSw); unfold Rl.SN at hSw; go_simp; try with_reducible rfl)
          try simp only [Act.put, List.setIfInBounds_toArray, List.set_cons_zero, List.set_cons_succ]
          refine wpAnyH_take (i := 37) (oi := { dst := some 79, op := Op.move (Operand.tmp 9), type := 3, pos := "law.go:135", after := #[{ on := 35, ground := Ground.guard }], guard := some (35, true) }) (v := ?vT23x38) rfl (by kernel_rfl) (by kernel_rfl) (by kernel_rfl) (fun _ _ _ h => h) (Or.inl ⟨by rfl, ?hyT23x38⟩) (by exact hS) ?rsT23x38
          case hyT23x38 => (intro w hSw; (try dsimp only at hSw); unfold Rl.SN at hSw; go_simp; try with_reducible rfl)
          try simp only [Act.put, List.setIfInBounds_toArray, List.set_cons_zero, List.set_cons_succ]
          refine wpAnyH_take (i := 38) (oi := { dst := some 80, op := Op.call { callee := Callee.builtin Builtin.max, args := #[Operand.tmp 79, Operand.const (Value.int IntKind.i64 0)], argTypes := #[3, 3] }, type := 3, pos := "law.go:135", after := #[{ on := 37, ground := Ground.data }, { on := 35, ground := Ground.guard }], guard := some (35, true) }) (v := ?vT23x39) rfl (by kernel_rfl) (by kernel_rfl) (by kernel_rfl) (fun _ _ _ h => h) (Or.inl ⟨by rfl, ?hyT23x39⟩) (by exact hS) ?rsT23x39
          case hyT23x39 => (intro w hSw; (try dsimp only at hSw); unfold Rl.SN at hSw; go_simp; try with_reducible rfl)
          try simp only [Act.put, List.setIfInBounds_toArray, List.set_cons_zero, List.set_cons_succ]
          refine wpAnyH_take (i := 39) (oi := { dst := some 81, op := Op.binOp BinOp.eql 3 (Operand.tmp 78) (Operand.tmp 80) 3, type := 4, pos := "law.go:135", after := #[{ on := 36, ground := Ground.data }, { on := 38, ground := Ground.data }, { on := 35, ground := Ground.guard }], guard := some (35, true) }) (v := ?vT23x40) rfl (by kernel_rfl) (by kernel_rfl) (by kernel_rfl) (fun _ _ _ h => h) (Or.inl ⟨by rfl, ?hyT23x40⟩) (by exact hS) ?rsT23x40
          case hyT23x40 => (intro w hSw; (try dsimp only at hSw); unfold Rl.SN at hSw; go_simp; try with_reducible rfl)
          try simp only [Act.put, List.setIfInBounds_toArray, List.set_cons_zero, List.set_cons_succ]
          refine wpAnyH_take (i := 40) (oi := { dst := some 82, op := Op.pick (Operand.tmp 77) (Operand.tmp 81) (Operand.const (Value.bool false)), type := 4, pos := "law.go:135", after := #[{ on := 35, ground := Ground.data }, { on := 39, ground := Ground.data }], guard := none }) (v := ?vT23x41) rfl (by kernel_rfl) (by kernel_rfl) (by kernel_rfl) (fun _ _ _ h => h) (Or.inl ⟨by rfl, ?hyT23x41⟩) (by exact hS) ?rsT23x41
          case hyT23x41 => (intro w hSw; (try dsimp only at hSw); unfold Rl.SN at hSw; go_simp; try with_reducible rfl)
          try simp only [Act.put, List.setIfInBounds_toArray, List.set_cons_zero, List.set_cons_succ]
          refine wpAnyH_take (i := 41) (oi := { dst := some 83, op := Op.move (Operand.tmp 82), type := 4, pos := "law.go:135", after := #[{ on := 40, ground := Ground.data }, { on := 35, ground := Ground.chain }], guard := none }) (v := ?vT23x42) rfl (by kernel_rfl) (by kernel_rfl) (by kernel_rfl) (fun _ _ _ h => h) (Or.inl ⟨by rfl, ?hyT23x42⟩) (by exact hS) ?rsT23x42
          case hyT23x42 => (intro w hSw; (try dsimp only at hSw); unfold Rl.SN at hSw; go_simp; try with_reducible rfl)
          try simp only [Act.put, List.setIfInBounds_toArray, List.set_cons_zero, List.set_cons_succ]
          refine wpAnyH_take (i := 42) (oi := { dst := some 84, op := Op.move (Operand.tmp 9), type := 3, pos := "law.go:135", after := #[{ on := 41, ground := Ground.guard }], guard := some (41, true) }) (v := ?vT23x43) rfl (by kernel_rfl) (by kernel_rfl) (by kernel_rfl) (fun _ _ _ h => h) (Or.inl ⟨by rfl, ?hyT23x43⟩) (by exact hS) ?rsT23x43
          case hyT23x43 => (intro w hSw; (try dsimp only at hSw); unfold Rl.SN at hSw; go_simp; try with_reducible rfl)
          try simp only [Act.put, List.setIfInBounds_toArray, List.set_cons_zero, List.set_cons_succ]
          refine wpAnyH_take (i := 43) (oi := { dst := some 85, op := Op.binOp BinOp.geq 3 (Operand.tmp 84) (Operand.const (Value.int IntKind.i64 0)) 3, type := 4, pos := "law.go:135", after := #[{ on := 42, ground := Ground.data }, { on := 41, ground := Ground.guard }], guard := some (41, true) }) (v := ?vT23x44) rfl (by kernel_rfl) (by kernel_rfl) (by kernel_rfl) (fun _ _ _ h => h) (Or.inl ⟨by rfl, ?hyT23x44⟩) (by exact hS) ?rsT23x44
          case hyT23x44 => (intro w hSw; (try dsimp only at hSw); unfold Rl.SN at hSw; go_simp; try with_reducible rfl)
          try simp only [Act.put, List.setIfInBounds_toArray, List.set_cons_zero, List.set_cons_succ]
          refine wpAnyH_take (i := 44) (oi := { dst := some 86, op := Op.move (Operand.tmp 85), type := 4, pos := "law.go:135", after := #[{ on := 43, ground := Ground.data }, { on := 41, ground := Ground.chain }, { on := 41, ground := Ground.guard }], guard := some (41, true) }) (v := ?vT23x45) rfl (by kernel_rfl) (by kernel_rfl) (by kernel_rfl) (fun _ _ _ h => h) (Or.inl ⟨by rfl, ?hyT23x45⟩) (by exact hS) ?rsT23x45
          case hyT23x45 => (intro w hSw; (try dsimp only at hSw); unfold Rl.SN at hSw; go_simp; try with_reducible rfl)
          try simp only [Act.put, List.setIfInBounds_toArray, List.set_cons_zero, List.set_cons_succ]
          refine wpAnyH_take (i := 45) (oi := { dst := some 87, op := Op.move (Operand.tmp 12), type := 28, pos := "law.go:135", after := #[{ on := 44, ground := Ground.guard }], guard := some (44, false) }) (v := ?vT23x46) rfl (by kernel_rfl) (by kernel_rfl) (by kernel_rfl) (fun _ _ _ h => h) (Or.inl ⟨by rfl, ?hyT23x46⟩) (by exact hS) ?rsT23x46
          case hyT23x46 => (intro w hSw; (try dsimp only at hSw); unfold Rl.SN at hSw; go_simp; try with_reducible rfl)
          try simp only [Act.put, List.setIfInBounds_toArray, List.set_cons_zero, List.set_cons_succ]
          refine wpAnyH_take (i := 46) (oi := { dst := some 88, op := Op.binOp BinOp.eql 28 (Operand.tmp 87) (Operand.const (Value.int IntKind.i64 7)) 28, type := 4, pos := "law.go:135", after := #[{ on := 45, ground := Ground.data }, { on := 44, ground := Ground.guard }], guard := some (44, false) }) (v := ?vT23x47) rfl (by kernel_rfl) (by kernel_rfl) (by kernel_rfl) (fun _ _ _ h => h) (Or.inl ⟨by rfl, ?hyT23x47⟩) (by exact hS) ?rsT23x47
          case hyT23x47 => (intro w hSw; (try dsimp only at hSw); unfold Rl.SN at hSw; go_simp; try with_reducible rfl)
          try simp only [Act.put, List.setIfInBounds_toArray, List.set_cons_zero, List.set_cons_succ]
          refine wpAnyH_take (i := 47) (oi := { dst := some 89, op := Op.pick (Operand.tmp 86) (Operand.const (Value.bool true)) (Operand.tmp 88), type := 4, pos := "law.go:135", after := #[{ on := 44, ground := Ground.data }, { on := 46, ground := Ground.data }, { on := 41, ground := Ground.guard }], guard := some (41, true) }) (v := ?vT23x48) rfl (by kernel_rfl) (by kernel_rfl) (by kernel_rfl) (fun _ _ _ h => h) (Or.inl ⟨by rfl, ?hyT23x48⟩) (by exact hS) ?rsT23x48
          case hyT23x48 => (intro w hSw; (try dsimp only at hSw); unfold Rl.SN at hSw; go_simp; try with_reducible rfl)
          try simp only [Act.put, List.setIfInBounds_toArray, List.set_cons_zero, List.set_cons_succ]
          refine wpAnyH_take (i := 48) (oi := { dst := some 90, op := Op.pick (Operand.tmp 83) (Operand.tmp 89) (Operand.const (Value.bool false)), type := 4, pos := "law.go:135", after := #[{ on := 41, ground := Ground.data }, { on := 47, ground := Ground.data }], guard := none }) (v := ?vT23x49) rfl (by kernel_rfl) (by kernel_rfl) (by kernel_rfl) (fun _ _ _ h => h) (Or.inl ⟨by rfl, ?hyT23x49⟩) (by exact hS) ?rsT23x49
          case hyT23x49 => (intro w hSw; (try dsimp only at hSw); unfold Rl.SN at hSw; go_simp; try with_reducible rfl)
          try simp only [Act.put, List.setIfInBounds_toArray, List.set_cons_zero, List.set_cons_succ]
          refine wpAnyH_take (i := 49) (oi := { dst := some 91, op := Op.move (Operand.tmp 90), type := 4, pos := "law.go:135", after := #[{ on := 48, ground := Ground.data }, { on := 44, ground := Ground.chain }], guard := none }) (v := ?vT23x50) rfl (by kernel_rfl) (by kernel_rfl) (by kernel_rfl) (fun _ _ _ h => h) (Or.inl ⟨by rfl, ?hyT23x50⟩) (by exact hS) ?rsT23x50
          case hyT23x50 => (intro w hSw; (try dsimp only at hSw); unfold Rl.SN at hSw; go_simp; try with_reducible rfl)
          try simp only [Act.put, List.setIfInBounds_toArray, List.set_cons_zero, List.set_cons_succ]
          refine wpAnyH_ready (rs := [50]) (by kernel_rfl) (by simp) ?_
          refine (AllReadyH.cons (o := { dst := some 92, op := Op.call { callee := Callee.value (Operand.func 18), args := #[], argTypes := #[] }, type := 4, pos := "law.go:135", after := #[{ on := 49, ground := Ground.chain }, { on := 49, ground := Ground.guard }], guard := some (49, true) }) rfl (fun K hK => ?_) AllReadyH.nil)
          go_simp
          refine (LV.out _).mono ?_
          rintro e yT23x51 ⟨rfl, hq⟩
          try (go_wp2_with fail)
          have hS2 := SQ.out _ (Q.trans (Rl.SN.here hS) hq)
          refine hK.out _ _ (by exact hS2) (fun hHeld => ?_)
          clear hK K hHeld hS hq
          have hS := hS2
          clear hS2
          try simp only [Act.put, List.setIfInBounds_toArray, List.set_cons_zero, List.set_cons_succ]
          refine wpAnyH_take (i := 51) (oi := { dst := some 93, op := Op.pick (Operand.tmp 91) (Operand.tmp 92) (Operand.const (Value.bool false)), type := 4, pos := "law.go:135", after := #[{ on := 49, ground := Ground.data }, { on := 50, ground := Ground.data }], guard := none }) (v := ?vT23x52) rfl (by kernel_rfl) (by kernel_rfl) (by kernel_rfl) (fun _ _ _ h => h) (Or.inl ⟨by rfl, ?hyT23x52⟩) (by exact hS) ?rsT23x52
          case hyT23x52 => (intro w hSw; (try dsimp only at hSw); unfold Rl.SN at hSw; go_simp; try with_reducible rfl)
          try simp only [Act.put, List.setIfInBounds_toArray, List.set_cons_zero, List.set_cons_succ]
          refine wpAnyH_take (i := 52) (oi := { dst := some 4, op := Op.assign (Operand.tmp 93), type := 4, pos := "law.go:135", after := #[{ on := 51, ground := Ground.data }, { on := 50, ground := Ground.chain }, { on := 0, ground := Ground.phase }, { on := 1, ground := Ground.phase }, { on := 2, ground := Ground.phase }, { on := 3, ground := Ground.phase }, { on := 4, ground := Ground.phase }, { on := 5, ground := Ground.phase }, { on := 6, ground := Ground.phase }, { on := 7, ground := Ground.phase }, { on := 8, ground := Ground.phase }, { on := 9, ground := Ground.phase }, { on := 10, ground := Ground.phase }, { on := 11, ground := Ground.phase }, { on := 12, ground := Ground.phase }, { on := 13, ground := Ground.phase }, { on := 14, ground := Ground.phase }, { on := 15, ground := Ground.phase }, { on := 16, ground := Ground.phase }, { on := 17, ground := Ground.phase }, { on := 18, ground := Ground.phase }, { on := 19, ground := Ground.phase }, { on := 20, ground := Ground.phase }, { on := 21, ground := Ground.phase }, { on := 22, ground := Ground.phase }, { on := 23, ground := Ground.phase }, { on := 24, ground := Ground.phase }, { on := 25, ground := Ground.phase }, { on := 26, ground := Ground.phase }, { on := 27, ground := Ground.phase }, { on := 28, ground := Ground.phase }, { on := 29, ground := Ground.phase }, { on := 30, ground := Ground.phase }, { on := 31, ground := Ground.phase }, { on := 32, ground := Ground.phase }, { on := 33, ground := Ground.phase }, { on := 34, ground := Ground.phase }, { on := 35, ground := Ground.phase }, { on := 36, ground := Ground.phase }, { on := 37, ground := Ground.phase }, { on := 38, ground := Ground.phase }, { on := 39, ground := Ground.phase }, { on := 40, ground := Ground.phase }, { on := 41, ground := Ground.phase }, { on := 42, ground := Ground.phase }, { on := 43, ground := Ground.phase }, { on := 44, ground := Ground.phase }, { on := 45, ground := Ground.phase }, { on := 46, ground := Ground.phase }, { on := 47, ground := Ground.phase }, { on := 48, ground := Ground.phase }, { on := 49, ground := Ground.phase }, { on := 50, ground := Ground.phase }, { on := 51, ground := Ground.phase }], guard := none }) (v := ?vT23x53) rfl (by kernel_rfl) (by kernel_rfl) (by kernel_rfl) (fun _ _ _ h => h) (Or.inl ⟨by rfl, ?hyT23x53⟩) (by exact hS) ?rsT23x53
          case hyT23x53 => (intro w hSw; (try dsimp only at hSw); unfold Rl.SN at hSw; go_simp; try with_reducible rfl)
          try simp only [Act.put, List.setIfInBounds_toArray, List.set_cons_zero, List.set_cons_succ]
          refine wpAnyH_done (by kernel_rfl) ?_ _
          have HQE := Lib.hid (Q2.out.trans (Rl.SN.here hS))
          clear hS SQ
          go_wp2_with fail
          go_ret
          exact ⟨rfl, HQE.out⟩
        · have HNX := HN2.out
          rw [Rm.nm_out a0 (.inr hn)] at HNX
          have HNX := Lib.hid HNX
          have hn1 : (0 : Int) ≤ a0 := by omega
          have hn2 : ¬ a0 < 7 := by omega
          have hn3 : decide (a0 < (7 : Int)) = false := by simp; omega
          have HM2 := Lib.hid H2
          clear H2
          go_wp2_with fail
          refine (HM2.out _).mono ?_
          rintro e z2 ⟨rfl, hq2⟩
          have HB2 := Lib.hid ((Q.block hq2 (lt_of_block HB.out)).trans HB.out)
          have Q2 := Lib.hid (HQ.out.trans hq2)
          clear hq2 HB HQ
          have SQ := Lib.hid (fun u (q : Q z2 u) => (⟨HCM.out u ((Q.block q (lt_of_block HB2.out)).trans HB2.out), q⟩ : Rl.SN z2 w.heap.size m x0 u))
          go_wp2_with fail
          refine wp_region_held_drew (S := fun u => Rl.SN z2 w.heap.size m x0 u) (by kernel_rfl) (by exact SQ.out _ ((Q.refl z2).drew)) (fun hHeld => ?_)
          have hS : Rl.SN z2 w.heap.size m x0 z2.drew := hHeld
          clear hHeld
          generalize z2.drew = yT24x0 at hS ⊢
          refine wpAnyH_take (i := 0) (oi := { dst := some 42, op := Op.move (Operand.tmp 6), type := 3, pos := "law.go:135", after := #[], guard := none }) (v := ?vT24x1) rfl (by kernel_rfl) (by kernel_rfl) (by kernel_rfl) (fun _ _ _ h => h) (Or.inl ⟨by rfl, ?hyT24x1⟩) (by exact hS) ?rsT24x1
          case hyT24x1 => (intro w hSw; (try dsimp only at hSw); unfold Rl.SN at hSw; go_simp; try with_reducible rfl)
          try simp only [Act.put, List.setIfInBounds_toArray, List.set_cons_zero, List.set_cons_succ]
          refine wpAnyH_take (i := 2) (oi := { dst := some 44, op := Op.move (Operand.tmp 5), type := 50, pos := "law.go:135", after := #[], guard := none }) (v := ?vT24x2) rfl (by kernel_rfl) (by kernel_rfl) (by kernel_rfl) (fun _ _ _ h => h) (Or.inl ⟨by rfl, ?hyT24x2⟩) (by exact hS) ?rsT24x2
          case hyT24x2 => (intro w hSw; (try dsimp only at hSw); unfold Rl.SN at hSw; go_simp; try with_reducible rfl)
          try simp only [Act.put, List.setIfInBounds_toArray, List.set_cons_zero, List.set_cons_succ]
          refine wpAnyH_take (i := 3) (oi := { dst := some 45, op := Op.move (Operand.tmp 6), type := 3, pos := "law.go:135", after := #[], guard := none }) (v := ?vT24x3) rfl (by kernel_rfl) (by kernel_rfl) (by kernel_rfl) (fun _ _ _ h => h) (Or.inl ⟨by rfl, ?hyT24x3⟩) (by exact hS) ?rsT24x3
          case hyT24x3 => (intro w hSw; (try dsimp only at hSw); unfold Rl.SN at hSw; go_simp; try with_reducible rfl)
          try simp only [Act.put, List.setIfInBounds_toArray, List.set_cons_zero, List.set_cons_succ]
          refine wpAnyH_take (i := 4) (oi := { dst := some 46, op := Op.indexAddr 50 (Operand.tmp 44) (Operand.tmp 45), type := 0, pos := "law.go:135", after := #[{ on := 2, ground := Ground.data }, { on := 3, ground := Ground.data }], guard := none }) (v := ?vT24x4) rfl (by kernel_rfl) (by kernel_rfl) (by kernel_rfl) (fun _ _ _ h => h) (Or.inl ⟨by rfl, ?hyT24x4⟩) (by exact hS) ?rsT24x4
          case hyT24x4 => (intro w hSw; (try dsimp only at hSw); unfold Rl.SN at hSw; go_simp; try with_reducible rfl)
          try simp only [Act.put, List.setIfInBounds_toArray, List.set_cons_zero, List.set_cons_succ]
          refine wpAnyH_take (i := 5) (oi := { dst := some 47, op := Op.load 9 (Operand.tmp 46), type := 9, pos := "law.go:135", after := #[{ on := 4, ground := Ground.data }], guard := none }) (v := ?vT24x5) rfl (by kernel_rfl) (by kernel_rfl) (by kernel_rfl) (fun _ _ _ h => h) (Or.inl ⟨by rfl, ?hyT24x5⟩) (by exact hS) ?rsT24x5
          case hyT24x5 => (intro w hSw; (try dsimp only at hSw); unfold Rl.SN at hSw; go_simp; try with_reducible rfl)
          try simp only [Act.put, List.setIfInBounds_toArray, List.set_cons_zero, List.set_cons_succ]
          refine wpAnyH_ready (rs := [1]) (by kernel_rfl) (by simp) ?_
          refine (AllReadyH.cons (o := { dst := some 43, op := Op.call { callee := Callee.value (Operand.func 30), args := #[Operand.tmp 42], argTypes := #[3] }, type := 9, pos := "law.go:135", after := #[{ on := 0, ground := Ground.data }], guard := none }) rfl (fun K hK => ?_) AllReadyH.nil)
          go_simp
          refine (HN1.out _).mono ?_
          rintro e yT24x6 ⟨rfl, hq⟩
          try (go_wp2_with fail)
          have hS2 := SQ.out _ (Q.trans (Rl.SN.here hS) hq)
          refine hK.out _ _ (by exact hS2) (fun hHeld => ?_)
          clear hK K hHeld hS hq
          have hS := hS2
          clear hS2
          try simp only [Act.put, List.setIfInBounds_toArray, List.set_cons_zero, List.set_cons_succ]
          refine wpAnyH_take (i := 6) (oi := { dst := some 48, op := Op.binOp BinOp.eql 9 (Operand.tmp 43) (Operand.tmp 47) 9, type := 4, pos := "law.go:135", after := #[{ on := 1, ground := Ground.data }, { on := 5, ground := Ground.data }], guard := none }) (v := ?vT24x7) rfl (by kernel_rfl) (by kernel_rfl) (by kernel_rfl) (fun _ _ _ h => h) (Or.inl ⟨by rfl, ?hyT24x7⟩) (by exact hS) ?rsT24x7
          case hyT24x7 => (intro w hSw; (try dsimp only at hSw); unfold Rl.SN at hSw; go_simp; try with_reducible rfl)
          try simp only [Act.put, List.setIfInBounds_toArray, List.set_cons_zero, List.set_cons_succ]
          refine wpAnyH_take (i := 7) (oi := { dst := some 49, op := Op.move (Operand.tmp 48), type := 4, pos := "law.go:135", after := #[{ on := 6, ground := Ground.data }, { on := 1, ground := Ground.chain }], guard := none }) (v := ?vT24x8) rfl (by kernel_rfl) (by kernel_rfl) (by kernel_rfl) (fun _ _ _ h => h) (Or.inl ⟨by rfl, ?hyT24x8⟩) (by exact hS) ?rsT24x8
          case hyT24x8 => (intro w hSw; (try dsimp only at hSw); unfold Rl.SN at hSw; go_simp; try with_reducible rfl)
          try simp only [Act.put, List.setIfInBounds_toArray, List.set_cons_zero, List.set_cons_succ]
          refine wpAnyH_take (i := 8) (oi := { dst := some 50, op := Op.move (Operand.tmp 7), type := 3, pos := "law.go:135", after := #[{ on := 7, ground := Ground.guard }], guard := some (7, true) }) (v := ?vT24x9) rfl (by kernel_rfl) (by kernel_rfl) (by kernel_rfl) (fun _ _ _ h => h) (Or.inl ⟨by rfl, ?hyT24x9⟩) (by exact hS) ?rsT24x9
          case hyT24x9 => (intro w hSw; (try dsimp only at hSw); unfold Rl.SN at hSw; go_simp; try with_reducible rfl)
          try simp only [Act.put, List.setIfInBounds_toArray, List.set_cons_zero, List.set_cons_succ]
          refine wpAnyH_take (i := 9) (oi := { dst := some 51, op := Op.move (Operand.tmp 6), type := 3, pos := "law.go:135", after := #[{ on := 7, ground := Ground.guard }], guard := some (7, true) }) (v := ?vT24x10) rfl (by kernel_rfl) (by kernel_rfl) (by kernel_rfl) (fun _ _ _ h => h) (Or.inl ⟨by rfl, ?hyT24x10⟩) (by exact hS) ?rsT24x10
          case hyT24x10 => (intro w hSw; (try dsimp only at hSw); unfold Rl.SN at hSw; go_simp; try with_reducible rfl)
          try simp only [Act.put, List.setIfInBounds_toArray, List.set_cons_zero, List.set_cons_succ]
          refine wpAnyH_take (i := 10) (oi := { dst := some 52, op := Op.binOp BinOp.eql 3 (Operand.tmp 50) (Operand.tmp 51) 3, type := 4, pos := "law.go:135", after := #[{ on := 8, ground := Ground.data }, { on := 9, ground := Ground.data }, { on := 7, ground := Ground.guard }], guard := some (7, true) }) (v := ?vT24x11) rfl (by kernel_rfl) (by kernel_rfl) (by kernel_rfl) (fun _ _ _ h => h) (Or.inl ⟨by rfl, ?hyT24x11⟩) (by exact hS) ?rsT24x11
          case hyT24x11 => (intro w hSw; (try dsimp only at hSw); unfold Rl.SN at hSw; go_simp; try with_reducible rfl)
          try simp only [Act.put, List.setIfInBounds_toArray, List.set_cons_zero, List.set_cons_succ]
          refine wpAnyH_take (i := 11) (oi := { dst := some 53, op := Op.pick (Operand.tmp 49) (Operand.tmp 52) (Operand.const (Value.bool false)), type := 4, pos := "law.go:135", after := #[{ on := 7, ground := Ground.data }, { on := 10, ground := Ground.data }], guard := none }) (v := ?vT24x12) rfl (by kernel_rfl) (by kernel_rfl) (by kernel_rfl) (fun _ _ _ h => h) (Or.inl ⟨by rfl, ?hyT24x12⟩) (by exact hS) ?rsT24x12
          case hyT24x12 => (intro w hSw; (try dsimp only at hSw); unfold Rl.SN at hSw; go_simp; try with_reducible rfl)
          try simp only [Act.put, List.setIfInBounds_toArray, List.set_cons_zero, List.set_cons_succ]
          refine wpAnyH_take (i := 12) (oi := { dst := some 54, op := Op.move (Operand.tmp 53), type := 4, pos := "law.go:135", after := #[{ on := 11, ground := Ground.data }, { on := 7, ground := Ground.chain }], guard := none }) (v := ?vT24x13) rfl (by kernel_rfl) (by kernel_rfl) (by kernel_rfl) (fun _ _ _ h => h) (Or.inl ⟨by rfl, ?hyT24x13⟩) (by exact hS) ?rsT24x13
          case hyT24x13 => (intro w hSw; (try dsimp only at hSw); unfold Rl.SN at hSw; go_simp; try with_reducible rfl)
          try simp only [Act.put, List.setIfInBounds_toArray, List.set_cons_zero, List.set_cons_succ]
          refine wpAnyH_take (i := 13) (oi := { dst := some 55, op := Op.move (Operand.tmp 8), type := 28, pos := "law.go:135", after := #[{ on := 12, ground := Ground.guard }], guard := some (12, true) }) (v := ?vT24x14) rfl (by kernel_rfl) (by kernel_rfl) (by kernel_rfl) (fun _ _ _ h => h) (Or.inl ⟨by rfl, ?hyT24x14⟩) (by exact hS) ?rsT24x14
          case hyT24x14 => (intro w hSw; (try dsimp only at hSw); unfold Rl.SN at hSw; go_simp; try with_reducible rfl)
          try simp only [Act.put, List.setIfInBounds_toArray, List.set_cons_zero, List.set_cons_succ]
          refine wpAnyH_take (i := 14) (oi := { dst := some 56, op := Op.binOp BinOp.eql 28 (Operand.tmp 55) (Operand.const (Value.int IntKind.i64 0)) 28, type := 4, pos := "law.go:135", after := #[{ on := 13, ground := Ground.data }, { on := 12, ground := Ground.guard }], guard := some (12, true) }) (v := ?vT24x15) rfl (by kernel_rfl) (by kernel_rfl) (by kernel_rfl) (fun _ _ _ h => h) (Or.inl ⟨by rfl, ?hyT24x15⟩) (by exact hS) ?rsT24x15
          case hyT24x15 => (intro w hSw; (try dsimp only at hSw); unfold Rl.SN at hSw; go_simp; try with_reducible rfl)
          try simp only [Act.put, List.setIfInBounds_toArray, List.set_cons_zero, List.set_cons_succ]
          refine wpAnyH_take (i := 15) (oi := { dst := some 57, op := Op.pick (Operand.tmp 54) (Operand.tmp 56) (Operand.const (Value.bool false)), type := 4, pos := "law.go:135", after := #[{ on := 12, ground := Ground.data }, { on := 14, ground := Ground.data }], guard := none }) (v := ?vT24x16) rfl (by kernel_rfl) (by kernel_rfl) (by kernel_rfl) (fun _ _ _ h => h) (Or.inl ⟨by rfl, ?hyT24x16⟩) (by exact hS) ?rsT24x16
          case hyT24x16 => (intro w hSw; (try dsimp only at hSw); unfold Rl.SN at hSw; go_simp; try with_reducible rfl)
          try simp only [Act.put, List.setIfInBounds_toArray, List.set_cons_zero, List.set_cons_succ]
          refine wpAnyH_take (i := 16) (oi := { dst := some 58, op := Op.move (Operand.tmp 57), type := 4, pos := "law.go:135", after := #[{ on := 15, ground := Ground.data }, { on := 12, ground := Ground.chain }], guard := none }) (v := ?vT24x17) rfl (by kernel_rfl) (by kernel_rfl) (by kernel_rfl) (fun _ _ _ h => h) (Or.inl ⟨by rfl, ?hyT24x17⟩) (by exact hS) ?rsT24x17
          case hyT24x17 => (intro w hSw; (try dsimp only at hSw); unfold Rl.SN at hSw; go_simp; try with_reducible rfl)
          try simp only [Act.put, List.setIfInBounds_toArray, List.set_cons_zero, List.set_cons_succ]
          refine wpAnyH_take (i := 17) (oi := { dst := some 59, op := Op.move (Operand.tmp 0), type := 3, pos := "law.go:135", after := #[{ on := 16, ground := Ground.guard }], guard := some (16, true) }) (v := ?vT24x18) rfl (by kernel_rfl) (by kernel_rfl) (by kernel_rfl) (fun _ _ _ h => h) (Or.inl ⟨by rfl, ?hyT24x18⟩) (by exact hS) ?rsT24x18
          case hyT24x18 => (intro w hSw; (try dsimp only at hSw); unfold Rl.SN at hSw; go_simp; try with_reducible rfl)
          try simp only [Act.put, List.setIfInBounds_toArray, List.set_cons_zero, List.set_cons_succ]
          refine wpAnyH_take (i := 20) (oi := { dst := some 62, op := Op.move (Operand.tmp 0), type := 3, pos := "law.go:135", after := #[{ on := 16, ground := Ground.guard }], guard := some (16, true) }) (v := ?vT24x19) rfl (by kernel_rfl) (by kernel_rfl) (by kernel_rfl) (fun _ _ _ h => h) (Or.inl ⟨by rfl, ?hyT24x19⟩) (by exact hS) ?rsT24x19
          case hyT24x19 => (intro w hSw; (try dsimp only at hSw); unfold Rl.SN at hSw; go_simp; try with_reducible rfl)
          try simp only [Act.put, List.setIfInBounds_toArray, List.set_cons_zero, List.set_cons_succ]
          refine wpAnyH_take (i := 21) (oi := { dst := some 63, op := Op.binOp BinOp.geq 3 (Operand.tmp 62) (Operand.const (Value.int IntKind.i64 0)) 3, type := 4, pos := "law.go:135", after := #[{ on := 20, ground := Ground.data }, { on := 16, ground := Ground.guard }], guard := some (16, true) }) (v := ?vT24x20) rfl (by kernel_rfl) (by kernel_rfl) (by kernel_rfl) (fun _ _ _ h => h) (Or.inl ⟨by rfl, ?hyT24x20⟩) (by exact hS) ?rsT24x20
          case hyT24x20 => (intro w hSw; (try dsimp only at hSw); unfold Rl.SN at hSw; go_simp; try with_reducible rfl)
          try simp only [Act.put, List.setIfInBounds_toArray, List.set_cons_zero, List.set_cons_succ]
          refine wpAnyH_ready (rs := [18]) (by kernel_rfl) (by simp) ?_
          refine (AllReadyH.cons (o := { dst := some 60, op := Op.call { callee := Callee.value (Operand.func 30), args := #[Operand.tmp 59], argTypes := #[3] }, type := 9, pos := "law.go:135", after := #[{ on := 17, ground := Ground.data }, { on := 16, ground := Ground.chain }, { on := 16, ground := Ground.guard }], guard := some (16, true) }) rfl (fun K hK => ?_) AllReadyH.nil)
          go_simp
          refine (HNX.out _).mono ?_
          rintro e yT24x21 ⟨rfl, hq⟩
          try (go_wp2_with fail)
          have hS2 := SQ.out _ (Q.trans (Rl.SN.here hS) hq)
          refine hK.out _ _ (by exact hS2) (fun hHeld => ?_)
          clear hK K hHeld hS hq
          have hS := hS2
          clear hS2
          try simp only [Act.put, List.setIfInBounds_toArray, List.set_cons_zero, List.set_cons_succ]
          refine wpAnyH_take (i := 19) (oi := { dst := some 61, op := Op.binOp BinOp.neq 9 (Operand.tmp 60) (Operand.const (Value.string { data := #[] })) 9, type := 4, pos := "law.go:135", after := #[{ on := 18, ground := Ground.data }, { on := 16, ground := Ground.guard }], guard := some (16, true) }) (v := ?vT24x22) rfl (by kernel_rfl) (by kernel_rfl) (by kernel_rfl) (fun _ _ _ h => h) (Or.inl ⟨by rfl, ?hyT24x22⟩) (by exact hS) ?rsT24x22
          case hyT24x22 => (intro w hSw; (try dsimp only at hSw); unfold Rl.SN at hSw; go_simp; try with_reducible rfl)
          try simp only [Act.put, List.setIfInBounds_toArray, List.set_cons_zero, List.set_cons_succ]
          refine wpAnyH_take (i := 22) (oi := { dst := some 64, op := Op.move (Operand.tmp 63), type := 4, pos := "law.go:135", after := #[{ on := 21, ground := Ground.data }, { on := 18, ground := Ground.chain }, { on := 16, ground := Ground.guard }], guard := some (16, true) }) (v := ?vT24x23) rfl (by kernel_rfl) (by kernel_rfl) (by kernel_rfl) (fun _ _ _ h => h) (Or.inl ⟨by rfl, ?hyT24x23⟩) (by exact hS) ?rsT24x23
          case hyT24x23 => (intro w hSw; (try dsimp only at hSw); unfold Rl.SN at hSw; go_simp; try with_reducible rfl)
          try simp only [Act.put, List.setIfInBounds_toArray, List.set_cons_zero, List.set_cons_succ]
          refine wpAnyH_take (i := 23) (oi := { dst := some 65, op := Op.move (Operand.tmp 0), type := 3, pos := "law.go:135", after := #[{ on := 22, ground := Ground.guard }], guard := some (22, true) }) (v := ?vT24x24) rfl (by kernel_rfl) (by kernel_rfl) (by kernel_rfl) (fun _ _ _ h => h) (Or.inl ⟨by rfl, ?hyT24x24⟩) (by exact hS) ?rsT24x24
          case hyT24x24 => (intro w hSw; (try dsimp only at hSw); unfold Rl.SN at hSw; go_simp; try with_reducible rfl)
          try simp only [Act.put, List.setIfInBounds_toArray, List.set_cons_zero, List.set_cons_succ]
          refine wpAnyH_take (i := 24) (oi := { dst := some 66, op := Op.binOp BinOp.lss 3 (Operand.tmp 65) (Operand.const (Value.int IntKind.i64 7)) 3, type := 4, pos := "law.go:135", after := #[{ on := 23, ground := Ground.data }, { on := 22, ground := Ground.guard }], guard := some (22, true) }) (v := ?vT24x25) rfl (by kernel_rfl) (by kernel_rfl) (by kernel_rfl) (fun _ _ _ h => h) (Or.inl ⟨by rfl, ?hyT24x25⟩) (by exact hS) ?rsT24x25
          case hyT24x25 => (intro w hSw; (try dsimp only at hSw); unfold Rl.SN at hSw; go_simp; try with_reducible rfl)
          try simp only [Act.put, List.setIfInBounds_toArray, List.set_cons_zero, List.set_cons_succ]
          refine wpAnyH_take (i := 25) (oi := { dst := some 67, op := Op.pick (Operand.tmp 64) (Operand.tmp 66) (Operand.const (Value.bool false)), type := 4, pos := "law.go:135", after := #[{ on := 22, ground := Ground.data }, { on := 24, ground := Ground.data }, { on := 16, ground := Ground.guard }], guard := some (16, true) }) (v := ?vT24x26) rfl (by kernel_rfl) (by kernel_rfl) (by kernel_rfl) (fun _ _ _ h => h) (Or.inl ⟨by rfl, ?hyT24x26⟩) (by exact hS) ?rsT24x26
          case hyT24x26 => (intro w hSw; (try dsimp only at hSw); unfold Rl.SN at hSw; go_simp; try with_reducible rfl)
          try simp only [Act.put, List.setIfInBounds_toArray, List.set_cons_zero, List.set_cons_succ]
          refine wpAnyH_take (i := 26) (oi := { dst := some 68, op := Op.binOp BinOp.eql 4 (Operand.tmp 61) (Operand.tmp 67) 4, type := 4, pos := "law.go:135", after := #[{ on := 19, ground := Ground.data }, { on := 25, ground := Ground.data }, { on := 16, ground := Ground.guard }], guard := some (16, true) }) (v := ?vT24x27) rfl (by kernel_rfl) (by kernel_rfl) (by kernel_rfl) (fun _ _ _ h => h) (Or.inl ⟨by rfl, ?hyT24x27⟩) (by exact hS) ?rsT24x27
          case hyT24x27 => (intro w hSw; (try dsimp only at hSw); unfold Rl.SN at hSw; go_simp; try with_reducible rfl)
          try simp only [Act.put, List.setIfInBounds_toArray, List.set_cons_zero, List.set_cons_succ]
          refine wpAnyH_take (i := 27) (oi := { dst := some 69, op := Op.pick (Operand.tmp 58) (Operand.tmp 68) (Operand.const (Value.bool false)), type := 4, pos := "law.go:135", after := #[{ on := 16, ground := Ground.data }, { on := 26, ground := Ground.data }], guard := none }) (v := ?vT24x28) rfl (by kernel_rfl) (by kernel_rfl) (by kernel_rfl) (fun _ _ _ h => h) (Or.inl ⟨by rfl, ?hyT24x28⟩) (by exact hS) ?rsT24x28
          case hyT24x28 => (intro w hSw; (try dsimp only at hSw); unfold Rl.SN at hSw; go_simp; try with_reducible rfl)
          try simp only [Act.put, List.setIfInBounds_toArray, List.set_cons_zero, List.set_cons_succ]
          refine wpAnyH_take (i := 28) (oi := { dst := some 70, op := Op.move (Operand.tmp 69), type := 4, pos := "law.go:135", after := #[{ on := 27, ground := Ground.data }, { on := 22, ground := Ground.chain }], guard := none }) (v := ?vT24x29) rfl (by kernel_rfl) (by kernel_rfl) (by kernel_rfl) (fun _ _ _ h => h) (Or.inl ⟨by rfl, ?hyT24x29⟩) (by exact hS) ?rsT24x29
          case hyT24x29 => (intro w hSw; (try dsimp only at hSw); unfold Rl.SN at hSw; go_simp; try with_reducible rfl)
          try simp only [Act.put, List.setIfInBounds_toArray, List.set_cons_zero, List.set_cons_succ]
          refine wpAnyH_take (i := 29) (oi := { dst := some 71, op := Op.move (Operand.tmp 12), type := 28, pos := "law.go:135", after := #[{ on := 28, ground := Ground.guard }], guard := some (28, true) }) (v := ?vT24x30) rfl (by kernel_rfl) (by kernel_rfl) (by kernel_rfl) (fun _ _ _ h => h) (Or.inl ⟨by rfl, ?hyT24x30⟩) (by exact hS) ?rsT24x30
          case hyT24x30 => (intro w hSw; (try dsimp only at hSw); unfold Rl.SN at hSw; go_simp; try with_reducible rfl)
          try simp only [Act.put, List.setIfInBounds_toArray, List.set_cons_zero, List.set_cons_succ]
          refine wpAnyH_take (i := 30) (oi := { dst := some 72, op := Op.binOp BinOp.eql 28 (Operand.tmp 71) (Operand.const (Value.int IntKind.i64 0)) 28, type := 4, pos := "law.go:135", after := #[{ on := 29, ground := Ground.data }, { on := 28, ground := Ground.guard }], guard := some (28, true) }) (v := ?vT24x31) rfl (by kernel_rfl) (by kernel_rfl) (by kernel_rfl) (fun _ _ _ h => h) (Or.inl ⟨by rfl, ?hyT24x31⟩) (by exact hS) ?rsT24x31
          case hyT24x31 => (intro w hSw; (try dsimp only at hSw); unfold Rl.SN at hSw; go_simp; try with_reducible rfl)
          try simp only [Act.put, List.setIfInBounds_toArray, List.set_cons_zero, List.set_cons_succ]
          refine wpAnyH_take (i := 31) (oi := { dst := some 73, op := Op.move (Operand.tmp 9), type := 3, pos := "law.go:135", after := #[{ on := 28, ground := Ground.guard }], guard := some (28, true) }) (v := ?vT24x32) rfl (by kernel_rfl) (by kernel_rfl) (by kernel_rfl) (fun _ _ _ h => h) (Or.inl ⟨by rfl, ?hyT24x32⟩) (by exact hS) ?rsT24x32
          case hyT24x32 => (intro w hSw; (try dsimp only at hSw); unfold Rl.SN at hSw; go_simp; try with_reducible rfl)
          try simp only [Act.put, List.setIfInBounds_toArray, List.set_cons_zero, List.set_cons_succ]
          refine wpAnyH_take (i := 32) (oi := { dst := some 74, op := Op.binOp BinOp.geq 3 (Operand.tmp 73) (Operand.const (Value.int IntKind.i64 0)) 3, type := 4, pos := "law.go:135", after := #[{ on := 31, ground := Ground.data }, { on := 28, ground := Ground.guard }], guard := some (28, true) }) (v := ?vT24x33) rfl (by kernel_rfl) (by kernel_rfl) (by kernel_rfl) (fun _ _ _ h => h) (Or.inl ⟨by rfl, ?hyT24x33⟩) (by exact hS) ?rsT24x33
          case hyT24x33 => (intro w hSw; (try dsimp only at hSw); unfold Rl.SN at hSw; go_simp; try with_reducible rfl)
          try simp only [Act.put, List.setIfInBounds_toArray, List.set_cons_zero, List.set_cons_succ]
          refine wpAnyH_take (i := 33) (oi := { dst := some 75, op := Op.binOp BinOp.eql 4 (Operand.tmp 72) (Operand.tmp 74) 4, type := 4, pos := "law.go:135", after := #[{ on := 30, ground := Ground.data }, { on := 32, ground := Ground.data }, { on := 28, ground := Ground.guard }], guard := some (28, true) }) (v := ?vT24x34) rfl (by kernel_rfl) (by kernel_rfl) (by kernel_rfl) (fun _ _ _ h => h) (Or.inl ⟨by rfl, ?hyT24x34⟩) (by exact hS) ?rsT24x34
          case hyT24x34 => (intro w hSw; (try dsimp only at hSw); unfold Rl.SN at hSw; go_simp; try with_reducible rfl)
          try simp only [Act.put, List.setIfInBounds_toArray, List.set_cons_zero, List.set_cons_succ]
          refine wpAnyH_take (i := 34) (oi := { dst := some 76, op := Op.pick (Operand.tmp 70) (Operand.tmp 75) (Operand.const (Value.bool false)), type := 4, pos := "law.go:135", after := #[{ on := 28, ground := Ground.data }, { on := 33, ground := Ground.data }], guard := none }) (v := ?vT24x35) rfl (by kernel_rfl) (by kernel_rfl) (by kernel_rfl) (fun _ _ _ h => h) (Or.inl ⟨by rfl, ?hyT24x35⟩) (by exact hS) ?rsT24x35
          case hyT24x35 => (intro w hSw; (try dsimp only at hSw); unfold Rl.SN at hSw; go_simp; try with_reducible rfl)
          try simp only [Act.put, List.setIfInBounds_toArray, List.set_cons_zero, List.set_cons_succ]
          refine wpAnyH_take (i := 35) (oi := { dst := some 77, op := Op.move (Operand.tmp 76), type := 4, pos := "law.go:135", after := #[{ on := 34, ground := Ground.data }, { on := 28, ground := Ground.chain }], guard := none }) (v := ?vT24x36) rfl (by kernel_rfl) (by kernel_rfl) (by kernel_rfl) (fun _ _ _ h => h) (Or.inl ⟨by rfl, ?hyT24x36⟩) (by exact hS) ?rsT24x36
          case hyT24x36 => (intro w hSw; (try dsimp only at hSw); unfold Rl.SN at hSw; go_simp; try with_reducible rfl)
          try simp only [Act.put, List.setIfInBounds_toArray, List.set_cons_zero, List.set_cons_succ]
          refine wpAnyH_take (i := 36) (oi := { dst := some 78, op := Op.move (Operand.tmp 11), type := 3, pos := "law.go:135", after := #[{ on := 35, ground := Ground.guard }], guard := some (35, true) }) (v := ?vT24x37) rfl (by kernel_rfl) (by kernel_rfl) (by kernel_rfl) (fun _ _ _ h => h) (Or.inl ⟨by rfl, ?hyT24x37⟩) (by exact hS) ?rsT24x37
          case hyT24x37 => (intro w hSw; (try dsimp only at hSw); unfold Rl.SN at hSw; go_simp; try with_reducible rfl)
          try simp only [Act.put, List.setIfInBounds_toArray, List.set_cons_zero, List.set_cons_succ]
          refine wpAnyH_take (i := 37) (oi := { dst := some 79, op := Op.move (Operand.tmp 9), type := 3, pos := "law.go:135", after := #[{ on := 35, ground := Ground.guard }], guard := some (35, true) }) (v := ?vT24x38) rfl (by kernel_rfl) (by kernel_rfl) (by kernel_rfl) (fun _ _ _ h => h) (Or.inl ⟨by rfl, ?hyT24x38⟩) (by exact hS) ?rsT24x38
          case hyT24x38 => (intro w hSw; (try dsimp only at hSw); unfold Rl.SN at hSw; go_simp; try with_reducible rfl)
          try simp only [Act.put, List.setIfInBounds_toArray, List.set_cons_zero, List.set_cons_succ]
          refine wpAnyH_take (i := 38) (oi := { dst := some 80, op := Op.call { callee := Callee.builtin Builtin.max, args := #[Operand.tmp 79, Operand.const (Value.int IntKind.i64 0)], argTypes := #[3, 3] }, type := 3, pos := "law.go:135", after := #[{ on := 37, ground := Ground.data }, { on := 35, ground := Ground.guard }], guard := some (35, true) }) (v := ?vT24x39) rfl (by kernel_rfl) (by kernel_rfl) (by kernel_rfl) (fun _ _ _ h => h) (Or.inl ⟨by rfl, ?hyT24x39⟩) (by exact hS) ?rsT24x39
          case hyT24x39 => (intro w hSw; (try dsimp only at hSw); unfold Rl.SN at hSw; go_simp; try with_reducible rfl)
          try simp only [Act.put, List.setIfInBounds_toArray, List.set_cons_zero, List.set_cons_succ]
          refine wpAnyH_take (i := 39) (oi := { dst := some 81, op := Op.binOp BinOp.eql 3 (Operand.tmp 78) (Operand.tmp 80) 3, type := 4, pos := "law.go:135", after := #[{ on := 36, ground := Ground.data }, { on := 38, ground := Ground.data }, { on := 35, ground := Ground.guard }], guard := some (35, true) }) (v := ?vT24x40) rfl (by kernel_rfl) (by kernel_rfl) (by kernel_rfl) (fun _ _ _ h => h) (Or.inl ⟨by rfl, ?hyT24x40⟩) (by exact hS) ?rsT24x40
          case hyT24x40 => (intro w hSw; (try dsimp only at hSw); unfold Rl.SN at hSw; go_simp; try with_reducible rfl)
          try simp only [Act.put, List.setIfInBounds_toArray, List.set_cons_zero, List.set_cons_succ]
          refine wpAnyH_take (i := 40) (oi := { dst := some 82, op := Op.pick (Operand.tmp 77) (Operand.tmp 81) (Operand.const (Value.bool false)), type := 4, pos := "law.go:135", after := #[{ on := 35, ground := Ground.data }, { on := 39, ground := Ground.data }], guard := none }) (v := ?vT24x41) rfl (by kernel_rfl) (by kernel_rfl) (by kernel_rfl) (fun _ _ _ h => h) (Or.inl ⟨by rfl, ?hyT24x41⟩) (by exact hS) ?rsT24x41
          case hyT24x41 => (intro w hSw; (try dsimp only at hSw); unfold Rl.SN at hSw; go_simp; try with_reducible rfl)
          try simp only [Act.put, List.setIfInBounds_toArray, List.set_cons_zero, List.set_cons_succ]
          refine wpAnyH_take (i := 41) (oi := { dst := some 83, op := Op.move (Operand.tmp 82), type := 4, pos := "law.go:135", after := #[{ on := 40, ground := Ground.data }, { on := 35, ground := Ground.chain }], guard := none }) (v := ?vT24x42) rfl (by kernel_rfl) (by kernel_rfl) (by kernel_rfl) (fun _ _ _ h => h) (Or.inl ⟨by rfl, ?hyT24x42⟩) (by exact hS) ?rsT24x42
          case hyT24x42 => (intro w hSw; (try dsimp only at hSw); unfold Rl.SN at hSw; go_simp; try with_reducible rfl)
          try simp only [Act.put, List.setIfInBounds_toArray, List.set_cons_zero, List.set_cons_succ]
          refine wpAnyH_take (i := 42) (oi := { dst := some 84, op := Op.move (Operand.tmp 9), type := 3, pos := "law.go:135", after := #[{ on := 41, ground := Ground.guard }], guard := some (41, true) }) (v := ?vT24x43) rfl (by kernel_rfl) (by kernel_rfl) (by kernel_rfl) (fun _ _ _ h => h) (Or.inl ⟨by rfl, ?hyT24x43⟩) (by exact hS) ?rsT24x43
          case hyT24x43 => (intro w hSw; (try dsimp only at hSw); unfold Rl.SN at hSw; go_simp; try with_reducible rfl)
          try simp only [Act.put, List.setIfInBounds_toArray, List.set_cons_zero, List.set_cons_succ]
          refine wpAnyH_take (i := 43) (oi := { dst := some 85, op := Op.binOp BinOp.geq 3 (Operand.tmp 84) (Operand.const (Value.int IntKind.i64 0)) 3, type := 4, pos := "law.go:135", after := #[{ on := 42, ground := Ground.data }, { on := 41, ground := Ground.guard }], guard := some (41, true) }) (v := ?vT24x44) rfl (by kernel_rfl) (by kernel_rfl) (by kernel_rfl) (fun _ _ _ h => h) (Or.inl ⟨by rfl, ?hyT24x44⟩) (by exact hS) ?rsT24x44
          case hyT24x44 => (intro w hSw; (try dsimp only at hSw); unfold Rl.SN at hSw; go_simp; try with_reducible rfl)
          try simp only [Act.put, List.setIfInBounds_toArray, List.set_cons_zero, List.set_cons_succ]
          refine wpAnyH_take (i := 44) (oi := { dst := some 86, op := Op.move (Operand.tmp 85), type := 4, pos := "law.go:135", after := #[{ on := 43, ground := Ground.data }, { on := 41, ground := Ground.chain }, { on := 41, ground := Ground.guard }], guard := some (41, true) }) (v := ?vT24x45) rfl (by kernel_rfl) (by kernel_rfl) (by kernel_rfl) (fun _ _ _ h => h) (Or.inl ⟨by rfl, ?hyT24x45⟩) (by exact hS) ?rsT24x45
          case hyT24x45 => (intro w hSw; (try dsimp only at hSw); unfold Rl.SN at hSw; go_simp; try with_reducible rfl)
          try simp only [Act.put, List.setIfInBounds_toArray, List.set_cons_zero, List.set_cons_succ]
          refine wpAnyH_take (i := 45) (oi := { dst := some 87, op := Op.move (Operand.tmp 12), type := 28, pos := "law.go:135", after := #[{ on := 44, ground := Ground.guard }], guard := some (44, false) }) (v := ?vT24x46) rfl (by kernel_rfl) (by kernel_rfl) (by kernel_rfl) (fun _ _ _ h => h) (Or.inl ⟨by rfl, ?hyT24x46⟩) (by exact hS) ?rsT24x46
          case hyT24x46 => (intro w hSw; (try dsimp only at hSw); unfold Rl.SN at hSw; go_simp; try with_reducible rfl)
          try simp only [Act.put, List.setIfInBounds_toArray, List.set_cons_zero, List.set_cons_succ]
          refine wpAnyH_take (i := 46) (oi := { dst := some 88, op := Op.binOp BinOp.eql 28 (Operand.tmp 87) (Operand.const (Value.int IntKind.i64 7)) 28, type := 4, pos := "law.go:135", after := #[{ on := 45, ground := Ground.data }, { on := 44, ground := Ground.guard }], guard := some (44, false) }) (v := ?vT24x47) rfl (by kernel_rfl) (by kernel_rfl) (by kernel_rfl) (fun _ _ _ h => h) (Or.inl ⟨by rfl, ?hyT24x47⟩) (by exact hS) ?rsT24x47
          case hyT24x47 => (intro w hSw; (try dsimp only at hSw); unfold Rl.SN at hSw; go_simp; try with_reducible rfl)
          try simp only [Act.put, List.setIfInBounds_toArray, List.set_cons_zero, List.set_cons_succ]
          refine wpAnyH_take (i := 47) (oi := { dst := some 89, op := Op.pick (Operand.tmp 86) (Operand.const (Value.bool true)) (Operand.tmp 88), type := 4, pos := "law.go:135", after := #[{ on := 44, ground := Ground.data }, { on := 46, ground := Ground.data }, { on := 41, ground := Ground.guard }], guard := some (41, true) }) (v := ?vT24x48) rfl (by kernel_rfl) (by kernel_rfl) (by kernel_rfl) (fun _ _ _ h => h) (Or.inl ⟨by rfl, ?hyT24x48⟩) (by exact hS) ?rsT24x48
          case hyT24x48 => (intro w hSw; (try dsimp only at hSw); unfold Rl.SN at hSw; go_simp; try with_reducible rfl)
          try simp only [Act.put, List.setIfInBounds_toArray, List.set_cons_zero, List.set_cons_succ]
          refine wpAnyH_take (i := 48) (oi := { dst := some 90, op := Op.pick (Operand.tmp 83) (Operand.tmp 89) (Operand.const (Value.bool false)), type := 4, pos := "law.go:135", after := #[{ on := 41, ground := Ground.data }, { on := 47, ground := Ground.data }], guard := none }) (v := ?vT24x49) rfl (by kernel_rfl) (by kernel_rfl) (by kernel_rfl) (fun _ _ _ h => h) (Or.inl ⟨by rfl, ?hyT24x49⟩) (by exact hS) ?rsT24x49
          case hyT24x49 => (intro w hSw; (try dsimp only at hSw); unfold Rl.SN at hSw; go_simp; try with_reducible rfl)
          try simp only [Act.put, List.setIfInBounds_toArray, List.set_cons_zero, List.set_cons_succ]
          refine wpAnyH_take (i := 49) (oi := { dst := some 91, op := Op.move (Operand.tmp 90), type := 4, pos := "law.go:135", after := #[{ on := 48, ground := Ground.data }, { on := 44, ground := Ground.chain }], guard := none }) (v := ?vT24x50) rfl (by kernel_rfl) (by kernel_rfl) (by kernel_rfl) (fun _ _ _ h => h) (Or.inl ⟨by rfl, ?hyT24x50⟩) (by exact hS) ?rsT24x50
          case hyT24x50 => (intro w hSw; (try dsimp only at hSw); unfold Rl.SN at hSw; go_simp; try with_reducible rfl)
          try simp only [Act.put, List.setIfInBounds_toArray, List.set_cons_zero, List.set_cons_succ]
          refine wpAnyH_ready (rs := [50]) (by kernel_rfl) (by simp) ?_
          refine (AllReadyH.cons (o := { dst := some 92, op := Op.call { callee := Callee.value (Operand.func 18), args := #[], argTypes := #[] }, type := 4, pos := "law.go:135", after := #[{ on := 49, ground := Ground.chain }, { on := 49, ground := Ground.guard }], guard := some (49, true) }) rfl (fun K hK => ?_) AllReadyH.nil)
          go_simp
          refine (LV.out _).mono ?_
          rintro e yT24x51 ⟨rfl, hq⟩
          try (go_wp2_with fail)
          have hS2 := SQ.out _ (Q.trans (Rl.SN.here hS) hq)
          refine hK.out _ _ (by exact hS2) (fun hHeld => ?_)
          clear hK K hHeld hS hq
          have hS := hS2
          clear hS2
          try simp only [Act.put, List.setIfInBounds_toArray, List.set_cons_zero, List.set_cons_succ]
          refine wpAnyH_take (i := 51) (oi := { dst := some 93, op := Op.pick (Operand.tmp 91) (Operand.tmp 92) (Operand.const (Value.bool false)), type := 4, pos := "law.go:135", after := #[{ on := 49, ground := Ground.data }, { on := 50, ground := Ground.data }], guard := none }) (v := ?vT24x52) rfl (by kernel_rfl) (by kernel_rfl) (by kernel_rfl) (fun _ _ _ h => h) (Or.inl ⟨by rfl, ?hyT24x52⟩) (by exact hS) ?rsT24x52
          case hyT24x52 => (intro w hSw; (try dsimp only at hSw); unfold Rl.SN at hSw; go_simp; try with_reducible rfl)
          try simp only [Act.put, List.setIfInBounds_toArray, List.set_cons_zero, List.set_cons_succ]
          refine wpAnyH_take (i := 52) (oi := { dst := some 4, op := Op.assign (Operand.tmp 93), type := 4, pos := "law.go:135", after := #[{ on := 51, ground := Ground.data }, { on := 50, ground := Ground.chain }, { on := 0, ground := Ground.phase }, { on := 1, ground := Ground.phase }, { on := 2, ground := Ground.phase }, { on := 3, ground := Ground.phase }, { on := 4, ground := Ground.phase }, { on := 5, ground := Ground.phase }, { on := 6, ground := Ground.phase }, { on := 7, ground := Ground.phase }, { on := 8, ground := Ground.phase }, { on := 9, ground := Ground.phase }, { on := 10, ground := Ground.phase }, { on := 11, ground := Ground.phase }, { on := 12, ground := Ground.phase }, { on := 13, ground := Ground.phase }, { on := 14, ground := Ground.phase }, { on := 15, ground := Ground.phase }, { on := 16, ground := Ground.phase }, { on := 17, ground := Ground.phase }, { on := 18, ground := Ground.phase }, { on := 19, ground := Ground.phase }, { on := 20, ground := Ground.phase }, { on := 21, ground := Ground.phase }, { on := 22, ground := Ground.phase }, { on := 23, ground := Ground.phase }, { on := 24, ground := Ground.phase }, { on := 25, ground := Ground.phase }, { on := 26, ground := Ground.phase }, { on := 27, ground := Ground.phase }, { on := 28, ground := Ground.phase }, { on := 29, ground := Ground.phase }, { on := 30, ground := Ground.phase }, { on := 31, ground := Ground.phase }, { on := 32, ground := Ground.phase }, { on := 33, ground := Ground.phase }, { on := 34, ground := Ground.phase }, { on := 35, ground := Ground.phase }, { on := 36, ground := Ground.phase }, { on := 37, ground := Ground.phase }, { on := 38, ground := Ground.phase }, { on := 39, ground := Ground.phase }, { on := 40, ground := Ground.phase }, { on := 41, ground := Ground.phase }, { on := 42, ground := Ground.phase }, { on := 43, ground := Ground.phase }, { on := 44, ground := Ground.phase }, { on := 45, ground := Ground.phase }, { on := 46, ground := Ground.phase }, { on := 47, ground := Ground.phase }, { on := 48, ground := Ground.phase }, { on := 49, ground := Ground.phase }, { on := 50, ground := Ground.phase }, { on := 51, ground := Ground.phase }], guard := none }) (v := ?vT24x53) rfl (by kernel_rfl) (by kernel_rfl) (by kernel_rfl) (fun _ _ _ h => h) (Or.inl ⟨by rfl, ?hyT24x53⟩) (by exact hS) ?rsT24x53
          case hyT24x53 => (intro w hSw; (try dsimp only at hSw); unfold Rl.SN at hSw; go_simp; try with_reducible rfl)
          try simp only [Act.put, List.setIfInBounds_toArray, List.set_cons_zero, List.set_cons_succ]
          refine wpAnyH_done (by kernel_rfl) ?_ _
          have HQE := Lib.hid (Q2.out.trans (Rl.SN.here hS))
          clear hS SQ
          go_wp2_with fail
          go_ret
          exact ⟨rfl, HQE.out⟩

set_option maxRecDepth 100000 in
theorem lifted (os : Os) (started : os.Started) (H : Type) (enc : TypeId × Value → H) :
    ReturnsInHanded {} Try.checked os 9 .any (Rows.roundNamesSpec.pre6 enc Try.prog Try.f9 Rows.roundNamesRow.domain false) (Rows.roundNamesSpec.post enc Try.prog Try.f9 false true false false) := by
  refine returnsInHanded_of_change (C := Try.checked) own started (by kernel_rfl) Try.func9
    (ChangeSpec.witness6 (enc := enc) (C := Try.checked) false ⟨#[], #[.int .i64 0, .string ByteArray.empty], []⟩ 8 (by kernel_rfl) (by kernel_rfl) (by kernel_rfl) (by kernel_rfl)) ?_
  intro W base args ds gs before hval0 hW hcnd _
  have hval : ∀ (j : Nat) t v, Try.f9.params[j]? = some t → args[j]? = some v → Value.okWide Try.prog W .any base t v := hval0
  have hW' := hW
  obtain ⟨p, q, hA0, hV, rfl, hfz, hnd⟩ := hW
  have hA : DataW.TrodAll enc Try.prog W 0 (fun _ => true) true Try.f9.params.toList args.toList ds p := hA0
  rw [Try.params9] at hA hval
  obtain ⟨v0, vs0, d0, ds0, p0, q0, hargs, rfl, rfl, h0, r0⟩ := trodAll_cons hA
  obtain ⟨v1, vs1, d1, ds1, p1, q1, rfl, rfl, rfl, h1, r1⟩ := trodAll_cons r0
  obtain ⟨rfl, rfl, rfl⟩ := trodAll_nil r1
  obtain rfl : args = #[v0, v1] := by cases args; simp_all
  obtain ⟨rfl, rfl⟩ := trodVars_none hV
  obtain ⟨a0, rfl, rfl, rfl, w0⟩ := open_int Try.underlying3 (hval 0 3 v0 rfl rfl) h0
  obtain ⟨a1, rfl, rfl, rfl, w1⟩ := open_string Try.underlying9 (hval 1 9 v1 rfl rfl) h1
  clear hA0 hval0
  refine (walk W a0 (bounds_i64 w0) a1 w1).mono fun e W' ⟨he, bel⟩ => ?_
  subst he
  exact ⟨_, rfl, _, _, _, [], _, [], hW', trodAll_mk1 (shut_bool Try.underlying4 _), (trodAll_cons_mk (shut_int Try.underlying3 w0) (trodAll_cons_mk (shut_string Try.underlying9 w1) trodAll_mk0)), rfl, bel.below.frame _, fun h => by cases h⟩

/-- The statement. -/
theorem proved : Rows.RoundNamesSaid :=
  OpenClaim.holds_of_wide 9 Try.f9 rfl rfl rfl rfl rfl rfl rfl ⟨rfl, rfl, rfl, rfl, rfl⟩ rfl rfl rfl rfl rfl (by kernel_rfl) Try.func9 (by kernel_rfl)
    (of_decide_eq_true (by kernel_rfl)) (by unfold Func.isWrapper; first | (rw [if_pos (by decide +kernel)]; kernel_rfl) | (rw [if_neg (by decide +kernel)]; exact ⟨rfl, rfl⟩))
    (fun os started H enc _ => lifted os started H enc)
#print axioms proved
end Go.Proofs.Ytebcgpoemppljaa.roundNames
