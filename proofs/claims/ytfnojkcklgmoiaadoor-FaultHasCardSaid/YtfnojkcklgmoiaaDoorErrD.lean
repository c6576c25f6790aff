/- What the library's Is answers of an error in memory, asked for a code: whether it is the code that is come to. -/
import Derived.Test.YtfnojkcklgmoiaaDoorErrA
import Derived.Test.YtfnojkcklgmoiaaDoorErrB
import Derived.StillTailTactics
import Derived.Lib.IfaceEq
set_option linter.unusedVariables false
set_option linter.unusedSimpArgs false
namespace Go.Proofs.YtfnojkcklgmoiaaDoor
open Go.RowKit Go.Extern.Stop Go.Stop Go.Extern
namespace Fe

theorem callTypeOf1 (args : Array Value) (w : World) : (callFunc 33 args).run Tryd.prog w = ((ReflectliteType.typeOf args).run Tryd.prog w).andThen fun v w' => .ok (.value v) w' := @run_callFunc_extern Tryd.prog 33 _ ReflectliteType.typeOf Tryd.func33 (by kernel_rfl) (by kernel_rfl) (by kernel_rfl) (by kernel_rfl) args w
theorem callComparable (args : Array Value) (w : World) : (callFunc 85 args).run Tryd.prog w = (((ReflectliteType.method fun t => do Rtype.noPackHeld "Comparable" t; pure (.bool (← typeInfo t).comparable)) args).run Tryd.prog w).andThen fun v w' => .ok (.value v) w' := @run_callFunc_extern Tryd.prog 85 _ (ReflectliteType.method fun t => do Rtype.noPackHeld "Comparable" t; pure (.bool (← typeInfo t).comparable)) Tryd.func85 (by kernel_rfl) (by kernel_rfl) (by kernel_rfl) (by kernel_rfl) args w
theorem comparableC (w : World) : ((ReflectliteType.method fun t => do Rtype.noPackHeld "Comparable" t; (fun a => Value.bool a.comparable) <$> typeInfo t) #[.agg #[.pointer (some ⟨5, 27, none⟩)]]).run Tryd.prog w = .ok (.bool true) w := by kernel_rfl
theorem compC : (Tryd.prog.info? 27).map (·.comparable) = some true := by kernel_rfl

/-- '==' of two codes, each held as an error: as the numbers are. -/
theorem eql_codes (w : World) (a b : Int) : (binOp .eql 24 (.iface 27 (.int .i64 a)) (.iface 27 (.int .i64 b))).run Tryd.prog w = .ok (.bool (a == b)) w :=
  Lib.run_eql_iface_int w a b Tryd.underlying24 compC Tryd.underlying27

set_option maxHeartbeats 4000000 in
set_option maxRecDepth 100000 in
theorem is_code (c n : Int) (ps : List ByteArray) (v : Value) (w : World) (h : EV w c ps v) :
    Calls Tryd.prog 34 #[v, .iface 27 (.int .i64 n), .bool true] w fun e w' => e = .returned (.bool (c == n)) ∧ w' = w := by
  have xnoIsC := noIsC
  have xnoIsF := noIsF
  have xnoUnC := noUnC
  have xnoUsC := noUsC
  have xhasUnF := hasUnF
  have xmUnwrap := mUnwrap
  by_cases hcn : c = n
  · subst hcn
    rw [beq_self_eq_true]
    have heq : ∀ w, (binOp .eql 24 (.iface 27 (.int .i64 c)) (.iface 27 (.int .i64 c))).run Tryd.prog w = .ok (.bool true) w := fun w => by rw [eql_codes, beq_self_eq_true]
    have HEQ := Lib.hid heq
    clear heq
    go_enter Tryd.func34, Tryd.ntmps34
    go_wp2_with fail
    go_loopw [0] (fun v wr => wr = w ∧ ∃ ps, EV w c ps v) (fun v _ => rank v)
    case atStart => exact ⟨rfl, ps, h⟩
    case round =>
      obtain ⟨rfl, qs, hv⟩ := hrel
      cases qs with
      | nil =>
        obtain rfl : _ = _ := hv
        clear h
        have heq := HEQ.out wr
        go_wp2
        go_ret
        exact ⟨rfl, rfl⟩
      | cons p qs =>
        obtain ⟨b, u, rfl, hb, hr, hu⟩ := hv
        obtain ⟨tu, vu, rfl⟩ := hu.iface
        clear h
        have hty := run_eql_iface_types (P := Tryd.prog) 47 27 (.pointer (some ⟨b, 0, none⟩)) (.int .i64 c) Tryd.underlying24 (by decide) wr
        go_wp2_with (go_at_call 26; refine (unwrap_any b p _ _ hb).mono ?_; rintro e w' ⟨rfl, rfl⟩)
        exact ⟨⟨trivial, qs, hu⟩, Nat.lt_succ_of_le hr⟩
  · have hb : (c == n) = false := beq_eq_false_iff_ne.2 hcn
    rw [hb]
    have heq : ∀ w, (binOp .eql 24 (.iface 27 (.int .i64 c)) (.iface 27 (.int .i64 n))).run Tryd.prog w = .ok (.bool false) w := fun w => by rw [eql_codes, hb]
    have HEQ := Lib.hid heq
    clear heq hb hcn
    go_enter Tryd.func34, Tryd.ntmps34
    go_wp2_with fail
    go_loopw [0] (fun v wr => wr = w ∧ ∃ ps, EV w c ps v) (fun v _ => rank v)
    case atStart => exact ⟨rfl, ps, h⟩
    case round =>
      obtain ⟨rfl, qs, hv⟩ := hrel
      cases qs with
      | nil =>
        obtain rfl : _ = _ := hv
        clear h
        have heq := HEQ.out wr
        go_wp2
        go_ret
        exact ⟨rfl, rfl⟩
      | cons p qs =>
        obtain ⟨b, u, rfl, hb, hr, hu⟩ := hv
        obtain ⟨tu, vu, rfl⟩ := hu.iface
        clear h
        have hty := run_eql_iface_types (P := Tryd.prog) 47 27 (.pointer (some ⟨b, 0, none⟩)) (.int .i64 n) Tryd.underlying24 (by decide) wr
        go_wp2_with (go_at_call 26; refine (unwrap_any b p _ _ hb).mono ?_; rintro e w' ⟨rfl, rfl⟩)
        exact ⟨⟨trivial, qs, hu⟩, Nat.lt_succ_of_le hr⟩

set_option maxHeartbeats 4000000 in
set_option maxRecDepth 100000 in
/-- errors.Is, asked for a code. -/
theorem Is_code (c n : Int) (ps : List ByteArray) (v : Value) (w : World) (h : EV w c ps v) :
    Calls Tryd.prog 23 #[v, .iface 27 (.int .i64 n)] w fun e w' => e = .returned (.bool (c == n)) ∧ w' = w := by
  have xcallTypeOf1 := callTypeOf1
  have xcallComparable := callComparable
  have xcomparableC := comparableC
  have xmComparable := mComparable
  have xtypeOfC := typeOfC
  obtain ⟨tv, vv, rfl⟩ := h.iface
  go_enter Tryd.func23, Tryd.ntmps23
  go_wp2_with (go_at_call 34; refine (is_code c n ps _ _ h).mono ?_; rintro e w' ⟨rfl, rfl⟩)
  go_ret
  exact ⟨rfl, rfl⟩

end Fe
end Go.Proofs.YtfnojkcklgmoiaaDoor
