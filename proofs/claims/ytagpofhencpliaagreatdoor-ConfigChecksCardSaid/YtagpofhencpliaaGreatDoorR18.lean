/- What the library's As answers of an error in memory, at the program's two targets: a code is found at the end of the path, a fault at its beginning, or there is none. (and more) -/
import Derived.Test.YtagpofhencpliaaGreatDoorR00
import Derived.Test.YtagpofhencpliaaGreatDoorR02
import Derived.Test.YtagpofhencpliaaGreatDoorR01
import Derived.StillTailTactics
set_option linter.unusedVariables false
set_option linter.unusedSimpArgs false
namespace Go.Proofs.YtagpofhencpliaaGreatDoor
open Go.RowKit Go.Extern.Stop Go.Stop Go.Extern
namespace Fe
theorem callTypeOf (args : Array Value) (w : World) : (callFunc 73 args).run Tryz.prog w = ((ReflectliteType.typeOf args).run Tryz.prog w).andThen fun v w' => .ok (.value v) w' := @run_callFunc_extern Tryz.prog 73 _ ReflectliteType.typeOf Tryz.func73 (by kernel_rfl) (by kernel_rfl) (by kernel_rfl) (by kernel_rfl) args w
theorem callValueOf (args : Array Value) (w : World) : (callFunc 54 args).run Tryz.prog w = (((fun args => ReflectliteValue.unpack (args.getD 0 (.tuple #[]))) args).run Tryz.prog w).andThen fun v w' => .ok (.value v) w' := @run_callFunc_extern Tryz.prog 54 _ (fun args => ReflectliteValue.unpack (args.getD 0 (.tuple #[]))) Tryz.func54 (by kernel_rfl) (by kernel_rfl) (by kernel_rfl) (by kernel_rfl) args w
theorem callVType (args : Array Value) (w : World) : (callFunc 55 args).run Tryz.prog w = (((ReflectliteValue.methodAny (ReflectliteValue.valueError "reflectlite.Value.Type" 0) (fun t _ _ _ => ReflectliteType.toType t)) args).run Tryz.prog w).andThen fun v w' => .ok (.value v) w' := @run_callFunc_extern Tryz.prog 55 _ (ReflectliteValue.methodAny (ReflectliteValue.valueError "reflectlite.Value.Type" 0) (fun t _ _ _ => ReflectliteType.toType t)) Tryz.func55 (by kernel_rfl) (by kernel_rfl) (by kernel_rfl) (by kernel_rfl) args w
theorem callVIsNil (args : Array Value) (w : World) : (callFunc 56 args).run Tryz.prog w = (((ReflectliteValue.method (ReflectliteValue.valueError "reflectlite.Value.IsNil" 0) ReflectliteValue.isNil) args).run Tryz.prog w).andThen fun v w' => .ok (.value v) w' := @run_callFunc_extern Tryz.prog 56 _ (ReflectliteValue.method (ReflectliteValue.valueError "reflectlite.Value.IsNil" 0) ReflectliteValue.isNil) Tryz.func56 (by kernel_rfl) (by kernel_rfl) (by kernel_rfl) (by kernel_rfl) args w
theorem callVElem (args : Array Value) (w : World) : (callFunc 74 args).run Tryz.prog w = (((ReflectliteValue.method (ReflectliteValue.valueError "reflectlite.Value.Elem" 0) ReflectliteValue.elem) args).run Tryz.prog w).andThen fun v w' => .ok (.value v) w' := @run_callFunc_extern Tryz.prog 74 _ (ReflectliteValue.method (ReflectliteValue.valueError "reflectlite.Value.Elem" 0) ReflectliteValue.elem) Tryz.func74 (by kernel_rfl) (by kernel_rfl) (by kernel_rfl) (by kernel_rfl) args w
theorem callVSet (args : Array Value) (w : World) : (callFunc 75 args).run Tryz.prog w = ((ReflectliteValue.set args).run Tryz.prog w).andThen fun v w' => .ok (.value v) w' := @run_callFunc_extern Tryz.prog 75 _ ReflectliteValue.set Tryz.func75 (by kernel_rfl) (by kernel_rfl) (by kernel_rfl) (by kernel_rfl) args w
theorem callKind (args : Array Value) (w : World) : (callFunc 104 args).run Tryz.prog w = (((ReflectliteType.abiMethod fun t => do pure (.int .u8 (← Rtype.kind t))) args).run Tryz.prog w).andThen fun v w' => .ok (.value v) w' := @run_callFunc_extern Tryz.prog 104 _ (ReflectliteType.abiMethod fun t => do pure (.int .u8 (← Rtype.kind t))) Tryz.func104 (by kernel_rfl) (by kernel_rfl) (by kernel_rfl) (by kernel_rfl) args w
theorem callElem (args : Array Value) (w : World) : (callFunc 117 args).run Tryz.prog w = (((ReflectliteType.method ReflectliteType.elem) args).run Tryz.prog w).andThen fun v w' => .ok (.value v) w' := @run_callFunc_extern Tryz.prog 117 _ (ReflectliteType.method ReflectliteType.elem) Tryz.func117 (by kernel_rfl) (by kernel_rfl) (by kernel_rfl) (by kernel_rfl) args w
theorem callImpl (args : Array Value) (w : World) : (callFunc 118 args).run Tryz.prog w = (((ReflectliteType.relation "Implements" ReflectliteType.implements_) args).run Tryz.prog w).andThen fun v w' => .ok (.value v) w' := @run_callFunc_extern Tryz.prog 118 _ (ReflectliteType.relation "Implements" ReflectliteType.implements_) Tryz.func118 (by kernel_rfl) (by kernel_rfl) (by kernel_rfl) (by kernel_rfl) args w
theorem callAssign (args : Array Value) (w : World) : (callFunc 115 args).run Tryz.prog w = (((ReflectliteType.relation "AssignableTo" ReflectliteType.assignableTo) args).run Tryz.prog w).andThen fun v w' => .ok (.value v) w' := @run_callFunc_extern Tryz.prog 115 _ (ReflectliteType.relation "AssignableTo" ReflectliteType.assignableTo) Tryz.func115 (by kernel_rfl) (by kernel_rfl) (by kernel_rfl) (by kernel_rfl) args w
set_option maxHeartbeats 4000000 in
set_option maxRecDepth 100000 in
theorem as_code (c : Int) (ps : List ByteArray) (v : Value) (a : Addr) (t : Nat) (old : Value) (w : World) (h : EV w c ps v) (ha : w.cell? a = some (.pointer (some ⟨t, 0, none⟩))) (ht : w.cell? ⟨t, 0, none⟩ = some old) (hf : w.frozen? ⟨t, 0, none⟩ = false) :
    Calls Tryz.prog 57 #[v, .iface 80 (.pointer (some ⟨t, 0, none⟩)), .agg #[.pointer (some ⟨1, 80, none⟩), .pointer (some a), .int .u64 150], .iface 125 (.agg #[.pointer (some ⟨1, 49, none⟩)])] w fun e w' => e = .returned (.bool true) ∧ Gap t (t + 1) w w' ∧ w'.cell? ⟨t, 0, none⟩ = some (.int .i64 c) := by
  have hal := World.block_lt_of_cell? _ _ ha
  have htl : t < w.heap.size := World.block_lt_of_cell? _ _ ht
  have hEV := h.q ((Q.refl w).alloc (.cells #[.pointer (some ⟨1, 80, none⟩), .pointer (some a), .int .u64 150] 106))
  have xcallTypeOf := callTypeOf
  have xcallValueOf := callValueOf
  have xcallVElem := callVElem
  have xcallVSet := callVSet
  have xcallAssign := callAssign
  have xtypeOfC := typeOfC
  have xtypeOfF := typeOfF
  have xmAssignableTo := mAssignableTo
  have xfitsCC := fitsCC
  have xfitsCF := fitsCF
  have xvalueC := valueC
  have xnoAsF := noAsF
  have xhasUnF := hasUnF
  have xmUnwrap := mUnwrap
  have el := elemVC a ⟨t, 0, none⟩ (w.alloc (.cells #[.pointer (some ⟨1, 80, none⟩), .pointer (some a), .int .u64 150] 106)) (by rw [World.cell?_alloc_lt _ _ a hal]; exact ha)
  have st := setC ⟨t, 0, none⟩ ⟨w.heap.size + 1, 0, none⟩ c old ((w.alloc (.cells #[.pointer (some ⟨1, 80, none⟩), .pointer (some a), .int .u64 150] 106)).alloc (.cells #[.int .i64 c] 49))
    (by rw [World.cell?_alloc_at _ _ _ _ (by simp)]; rfl)
    (by rw [World.cell?_alloc_lt _ _ _ (by show t < _; simp; omega), World.cell?_alloc_lt _ _ _ htl]; exact ht)
    (by rw [World.frozen?_alloc_old _ _ _ (by show t ≠ _; simp; omega), World.frozen?_alloc_old _ _ _ (by show t ≠ _; omega)]; exact hf)
  have hEnd : Gap t (t + 1) w (((w.setCell ⟨t, 0, none⟩ (.int .i64 c)).alloc (.cells #[.pointer (some ⟨1, 80, none⟩), .pointer (some a), .int .u64 150] 106)).alloc (.cells #[.int .i64 c] 49)) ∧ (((w.setCell ⟨t, 0, none⟩ (.int .i64 c)).alloc (.cells #[.pointer (some ⟨1, 80, none⟩), .pointer (some a), .int .u64 150] 106)).alloc (.cells #[.int .i64 c] 49)).cell? ⟨t, 0, none⟩ = some (.int .i64 c) := by
    refine ⟨(Gap.setCell _ _ _ _ _ _ (Nat.le_refl _) (Nat.lt_succ_self _)).trans ((Gap.alloc _ _ t (t + 1)).trans (Gap.alloc _ _ t (t + 1))), ?_⟩
    rw [World.cell?_alloc_lt _ _ _ (by show t < _; simp; omega), World.cell?_alloc_lt _ _ _ (by show t < _; simp; omega), World.cell?_setCell_same' _ _ _ (by rw [ht]; rfl)]
  have HE := Lib.hid hEnd
  clear hEnd h
  go_enter Tryz.func57, Tryz.ntmps57
  go_wp2_with fail
  go_loopw [0] (fun v wr => wr = (w.alloc (.cells #[.pointer (some ⟨1, 80, none⟩), .pointer (some a), .int .u64 150] 106)) ∧ ∃ ps, EV (w.alloc (.cells #[.pointer (some ⟨1, 80, none⟩), .pointer (some a), .int .u64 150] 106)) c ps v) (fun v _ => rank v)
  case atStart => exact ⟨rfl, ps, hEV⟩
  case round =>
    obtain ⟨rfl, qs, hv⟩ := hrel
    cases qs with
    | nil =>
      obtain rfl : _ = _ := hv
      clear hEV
      go_wp2
      go_ret
      exact ⟨rfl, HE.out⟩
    | cons p qs =>
      obtain ⟨b, u, rfl, hb, hr, hu⟩ := hv
      obtain ⟨tu, vu, rfl⟩ := hu.iface
      clear hEV el st
      go_wp2_with (go_at_call 110; refine (unwrap_any b p _ _ hb).mono ?_; rintro e w' ⟨rfl, rfl⟩)
      exact ⟨⟨trivial, qs, hu⟩, Nat.lt_succ_of_le hr⟩
set_option maxHeartbeats 4000000 in
set_option maxRecDepth 100000 in
theorem as_fault (p : Addr) (a : Addr) (t : Nat) (old : Value) (w : World) (ha : w.cell? a = some (.pointer (some ⟨t, 0, none⟩))) (ht : w.cell? ⟨t, 0, none⟩ = some old) (hf : w.frozen? ⟨t, 0, none⟩ = false) :
    Calls Tryz.prog 57 #[.iface 83 (.pointer (some p)), .iface 116 (.pointer (some ⟨t, 0, none⟩)), .agg #[.pointer (some ⟨1, 116, none⟩), .pointer (some a), .int .u64 150], .iface 125 (.agg #[.pointer (some ⟨1, 83, none⟩)])] w fun e w' => e = .returned (.bool true) ∧ Gap t (t + 1) w w' ∧ w'.cell? ⟨t, 0, none⟩ = some (.pointer (some p)) := by
  have hal := World.block_lt_of_cell? _ _ ha
  have htl : t < w.heap.size := World.block_lt_of_cell? _ _ ht
  have xcallTypeOf := callTypeOf
  have xcallValueOf := callValueOf
  have xcallVElem := callVElem
  have xcallVSet := callVSet
  have xcallAssign := callAssign
  have xtypeOfF := typeOfF
  have xmAssignableTo := mAssignableTo
  have xfitsFF := fitsFF
  have xvalueF := valueF
  have el := elemVF a ⟨t, 0, none⟩ (w.alloc (.cells #[.pointer (some ⟨1, 116, none⟩), .pointer (some a), .int .u64 150] 106)) (by rw [World.cell?_alloc_lt _ _ a hal]; exact ha)
  have st := setF ⟨t, 0, none⟩ ⟨w.heap.size + 1, 0, none⟩ p old ((w.alloc (.cells #[.pointer (some ⟨1, 116, none⟩), .pointer (some a), .int .u64 150] 106)).alloc (.cells #[.pointer (some p)] 83))
    (by rw [World.cell?_alloc_at _ _ _ _ (by simp)]; rfl)
    (by rw [World.cell?_alloc_lt _ _ _ (by show t < _; simp; omega), World.cell?_alloc_lt _ _ _ htl]; exact ht)
    (by rw [World.frozen?_alloc_old _ _ _ (by show t ≠ _; simp; omega), World.frozen?_alloc_old _ _ _ (by show t ≠ _; omega)]; exact hf)
  have hEnd : Gap t (t + 1) w (((w.setCell ⟨t, 0, none⟩ (.pointer (some p))).alloc (.cells #[.pointer (some ⟨1, 116, none⟩), .pointer (some a), .int .u64 150] 106)).alloc (.cells #[.pointer (some p)] 83)) ∧ (((w.setCell ⟨t, 0, none⟩ (.pointer (some p))).alloc (.cells #[.pointer (some ⟨1, 116, none⟩), .pointer (some a), .int .u64 150] 106)).alloc (.cells #[.pointer (some p)] 83)).cell? ⟨t, 0, none⟩ = some (.pointer (some p)) := by
    refine ⟨(Gap.setCell _ _ _ _ _ _ (Nat.le_refl _) (Nat.lt_succ_self _)).trans ((Gap.alloc _ _ t (t + 1)).trans (Gap.alloc _ _ t (t + 1))), ?_⟩
    rw [World.cell?_alloc_lt _ _ _ (by show t < _; simp; omega), World.cell?_alloc_lt _ _ _ (by show t < _; simp; omega), World.cell?_setCell_same' _ _ _ (by rw [ht]; rfl)]
  have HE := Lib.hid hEnd
  clear hEnd
  go_enter Tryz.func57, Tryz.ntmps57
  go_wp2
  refine wp_loop_rounds 1 ?_
  rw [rounds_succ]
  go_wp2
  go_ret
  exact ⟨rfl, HE.out⟩
set_option maxHeartbeats 4000000 in
set_option maxRecDepth 100000 in
theorem as_none (c : Int) (x : Value) (a : Addr) (w : World) :
    Calls Tryz.prog 57 #[.iface 49 (.int .i64 c), x, .agg #[.pointer (some ⟨1, 116, none⟩), .pointer (some a), .int .u64 150], .iface 125 (.agg #[.pointer (some ⟨1, 83, none⟩)])] w fun e w' => e = .returned (.bool false) ∧ Q w w' := by
  have hEnd : Q w (w.alloc (.cells #[.pointer (some ⟨1, 116, none⟩), .pointer (some a), .int .u64 150] 106)) := (Q.refl w).alloc _
  have HE := Lib.hid hEnd
  clear hEnd
  have xcallTypeOf := callTypeOf
  have xcallAssign := callAssign
  have xtypeOfC := typeOfC
  have xmAssignableTo := mAssignableTo
  have xfitsFC := fitsFC
  have xnoAsC := noAsC
  have xnoUnC := noUnC
  have xnoUsC := noUsC
  go_enter Tryz.func57, Tryz.ntmps57
  go_wp2
  refine wp_loop_rounds 1 ?_
  rw [rounds_succ]
  go_wp2
  go_ret
  exact ⟨rfl, HE.out⟩
set_option maxHeartbeats 400000 in
theorem As_nil (x : Value) (w : World) :
    Calls Tryz.prog 31 #[.nilIface, x] w fun e w' => e = .returned (.bool false) ∧ w' = w := by
  go_enter Tryz.func31, Tryz.ntmps31
  go_wp2
  go_ret
  exact ⟨rfl, rfl⟩
set_option maxHeartbeats 4000000 in
set_option maxRecDepth 100000 in
theorem As_code (c : Int) (ps : List ByteArray) (v : Value) (t : Nat) (old : Value) (w : World) (hg : Handle w) (h : EV w c ps v) (ht : w.cell? ⟨t, 0, none⟩ = some old) (hf : w.frozen? ⟨t, 0, none⟩ = false) :
    Calls Tryz.prog 31 #[v, .iface 80 (.pointer (some ⟨t, 0, none⟩))] w fun e w' => e = .returned (.bool true) ∧ Gap t (t + 1) w w' ∧ w'.cell? ⟨t, 0, none⟩ = some (.int .i64 c) := by
  have htl : t < w.heap.size := World.block_lt_of_cell? _ _ ht
  have hgl := hg.pos
  have hgc : ((w.alloc (.cells #[.pointer (some ⟨t, 0, none⟩)] 80)).alloc (.cells #[.pointer (some ⟨1, 80, none⟩), .pointer (some ⟨w.heap.size, 0, none⟩), .int .u64 150] 106)).cell? ⟨0, 0, none⟩ = some (.iface 125 (.agg #[.pointer (some ⟨1, 41, none⟩)])) := by
    rw [World.cell?_alloc_lt _ _ _ (by show 0 < _; simp <;> omega), World.cell?_alloc_lt _ _ _ hgl]; exact hg
  have ha2 : ((w.alloc (.cells #[.pointer (some ⟨t, 0, none⟩)] 80)).alloc (.cells #[.pointer (some ⟨1, 80, none⟩), .pointer (some ⟨w.heap.size, 0, none⟩), .int .u64 150] 106)).cell? ⟨w.heap.size, 0, none⟩ = some (.pointer (some ⟨t, 0, none⟩)) := by
    rw [World.cell?_alloc_lt _ _ ⟨w.heap.size, 0, none⟩ (by simp)]
    rw [World.cell?_alloc_at _ _ _ _ (by simp)]; rfl
  have ht2 : ((w.alloc (.cells #[.pointer (some ⟨t, 0, none⟩)] 80)).alloc (.cells #[.pointer (some ⟨1, 80, none⟩), .pointer (some ⟨w.heap.size, 0, none⟩), .int .u64 150] 106)).cell? ⟨t, 0, none⟩ = some old := by
    rw [World.cell?_alloc_lt _ _ _ (by show t < _; simp; omega), World.cell?_alloc_lt _ _ _ htl]; exact ht
  have hf2 : ((w.alloc (.cells #[.pointer (some ⟨t, 0, none⟩)] 80)).alloc (.cells #[.pointer (some ⟨1, 80, none⟩), .pointer (some ⟨w.heap.size, 0, none⟩), .int .u64 150] 106)).frozen? ⟨t, 0, none⟩ = false := by
    rw [World.frozen?_alloc_old _ _ _ (by show t ≠ _; simp; omega), World.frozen?_alloc_old _ _ _ (by show t ≠ _; omega)]; exact hf
  have hq2 : Q w ((w.alloc (.cells #[.pointer (some ⟨t, 0, none⟩)] 80)).alloc (.cells #[.pointer (some ⟨1, 80, none⟩), .pointer (some ⟨w.heap.size, 0, none⟩), .int .u64 150] 106)) := ((Q.refl w).alloc _).alloc _
  have hG : Gap t (t + 1) w ((w.alloc (.cells #[.pointer (some ⟨t, 0, none⟩)] 80)).alloc (.cells #[.pointer (some ⟨1, 80, none⟩), .pointer (some ⟨w.heap.size, 0, none⟩), .int .u64 150] 106)) := (Gap.alloc _ _ t (t + 1)).trans (Gap.alloc _ _ t (t + 1))
  have h2 := h.q hq2
  obtain ⟨tv, vv, rfl⟩ := h.iface
  clear h
  have HQ := Lib.hid hq2
  have HG := Lib.hid hG
  have isn := isNilC ⟨w.heap.size, 0, none⟩ ⟨t, 0, none⟩ ((w.alloc (.cells #[.pointer (some ⟨t, 0, none⟩)] 80)).alloc (.cells #[.pointer (some ⟨1, 80, none⟩), .pointer (some ⟨w.heap.size, 0, none⟩), .int .u64 150] 106)) ha2
  have xcallValueOf := callValueOf
  have xcallVType := callVType
  have xcallVIsNil := callVIsNil
  have xcallKind := callKind
  have xcallElem := callElem
  have xcallImpl := callImpl
  have xvaluePC := valuePC
  have xtypeC := typeC
  have xmKind := mKind
  have xmElem := mElem
  have xmImplements := mImplements
  have xkindPC := kindPC
  have xkindC := kindC
  have xelemC := elemC
  have ximplementsC := implementsC
  clear hq2 hG hg ht hf
  go_enter Tryz.func31, Tryz.ntmps31
  go_wp2_with (go_at_call 57; refine (as_code c ps _ _ t old _ h2 ha2 ht2 hf2).mono ?_; rintro e w' ⟨rfl, hr⟩)
  go_ret
  exact ⟨rfl, HG.out.trans hr.1, hr.2⟩
set_option maxHeartbeats 4000000 in
set_option maxRecDepth 100000 in
theorem As_fault (p : Addr) (t : Nat) (old : Value) (w : World) (hg : Handle w)  (ht : w.cell? ⟨t, 0, none⟩ = some old) (hf : w.frozen? ⟨t, 0, none⟩ = false) :
    Calls Tryz.prog 31 #[.iface 83 (.pointer (some p)), .iface 116 (.pointer (some ⟨t, 0, none⟩))] w fun e w' => e = .returned (.bool true) ∧ Gap t (t + 1) w w' ∧ w'.cell? ⟨t, 0, none⟩ = some (.pointer (some p)) := by
  have htl : t < w.heap.size := World.block_lt_of_cell? _ _ ht
  have hgl := hg.pos
  have hgc : ((w.alloc (.cells #[.pointer (some ⟨t, 0, none⟩)] 116)).alloc (.cells #[.pointer (some ⟨1, 116, none⟩), .pointer (some ⟨w.heap.size, 0, none⟩), .int .u64 150] 106)).cell? ⟨0, 0, none⟩ = some (.iface 125 (.agg #[.pointer (some ⟨1, 41, none⟩)])) := by
    rw [World.cell?_alloc_lt _ _ _ (by show 0 < _; simp <;> omega), World.cell?_alloc_lt _ _ _ hgl]; exact hg
  have ha2 : ((w.alloc (.cells #[.pointer (some ⟨t, 0, none⟩)] 116)).alloc (.cells #[.pointer (some ⟨1, 116, none⟩), .pointer (some ⟨w.heap.size, 0, none⟩), .int .u64 150] 106)).cell? ⟨w.heap.size, 0, none⟩ = some (.pointer (some ⟨t, 0, none⟩)) := by
    rw [World.cell?_alloc_lt _ _ ⟨w.heap.size, 0, none⟩ (by simp)]
    rw [World.cell?_alloc_at _ _ _ _ (by simp)]; rfl
  have ht2 : ((w.alloc (.cells #[.pointer (some ⟨t, 0, none⟩)] 116)).alloc (.cells #[.pointer (some ⟨1, 116, none⟩), .pointer (some ⟨w.heap.size, 0, none⟩), .int .u64 150] 106)).cell? ⟨t, 0, none⟩ = some old := by
    rw [World.cell?_alloc_lt _ _ _ (by show t < _; simp; omega), World.cell?_alloc_lt _ _ _ htl]; exact ht
  have hf2 : ((w.alloc (.cells #[.pointer (some ⟨t, 0, none⟩)] 116)).alloc (.cells #[.pointer (some ⟨1, 116, none⟩), .pointer (some ⟨w.heap.size, 0, none⟩), .int .u64 150] 106)).frozen? ⟨t, 0, none⟩ = false := by
    rw [World.frozen?_alloc_old _ _ _ (by show t ≠ _; simp; omega), World.frozen?_alloc_old _ _ _ (by show t ≠ _; omega)]; exact hf
  have hq2 : Q w ((w.alloc (.cells #[.pointer (some ⟨t, 0, none⟩)] 116)).alloc (.cells #[.pointer (some ⟨1, 116, none⟩), .pointer (some ⟨w.heap.size, 0, none⟩), .int .u64 150] 106)) := ((Q.refl w).alloc _).alloc _
  have hG : Gap t (t + 1) w ((w.alloc (.cells #[.pointer (some ⟨t, 0, none⟩)] 116)).alloc (.cells #[.pointer (some ⟨1, 116, none⟩), .pointer (some ⟨w.heap.size, 0, none⟩), .int .u64 150] 106)) := (Gap.alloc _ _ t (t + 1)).trans (Gap.alloc _ _ t (t + 1))
  have HQ := Lib.hid hq2
  have HG := Lib.hid hG
  have isn := isNilF ⟨w.heap.size, 0, none⟩ ⟨t, 0, none⟩ ((w.alloc (.cells #[.pointer (some ⟨t, 0, none⟩)] 116)).alloc (.cells #[.pointer (some ⟨1, 116, none⟩), .pointer (some ⟨w.heap.size, 0, none⟩), .int .u64 150] 106)) ha2
  have xcallValueOf := callValueOf
  have xcallVType := callVType
  have xcallVIsNil := callVIsNil
  have xcallKind := callKind
  have xcallElem := callElem
  have xcallImpl := callImpl
  have xvaluePF := valuePF
  have xtypeF := typeF
  have xmKind := mKind
  have xmElem := mElem
  have xmImplements := mImplements
  have xkindPF := kindPF
  have xkindF := kindF
  have xelemF := elemF
  have ximplementsF := implementsF
  clear hq2 hG hg ht hf
  go_enter Tryz.func31, Tryz.ntmps31
  go_wp2_with (go_at_call 57; refine (as_fault p _ t old _ ha2 ht2 hf2).mono ?_; rintro e w' ⟨rfl, hr⟩)
  go_ret
  exact ⟨rfl, HG.out.trans hr.1, hr.2⟩
set_option maxHeartbeats 4000000 in
set_option maxRecDepth 100000 in
theorem As_none (c : Int) (t : Nat) (old : Value) (w : World) (hg : Handle w)  (ht : w.cell? ⟨t, 0, none⟩ = some old) (hf : w.frozen? ⟨t, 0, none⟩ = false) :
    Calls Tryz.prog 31 #[.iface 49 (.int .i64 c), .iface 116 (.pointer (some ⟨t, 0, none⟩))] w fun e w' => e = .returned (.bool false) ∧ Q w w' := by
  have htl : t < w.heap.size := World.block_lt_of_cell? _ _ ht
  have hgl := hg.pos
  have hgc : ((w.alloc (.cells #[.pointer (some ⟨t, 0, none⟩)] 116)).alloc (.cells #[.pointer (some ⟨1, 116, none⟩), .pointer (some ⟨w.heap.size, 0, none⟩), .int .u64 150] 106)).cell? ⟨0, 0, none⟩ = some (.iface 125 (.agg #[.pointer (some ⟨1, 41, none⟩)])) := by
    rw [World.cell?_alloc_lt _ _ _ (by show 0 < _; simp <;> omega), World.cell?_alloc_lt _ _ _ hgl]; exact hg
  have ha2 : ((w.alloc (.cells #[.pointer (some ⟨t, 0, none⟩)] 116)).alloc (.cells #[.pointer (some ⟨1, 116, none⟩), .pointer (some ⟨w.heap.size, 0, none⟩), .int .u64 150] 106)).cell? ⟨w.heap.size, 0, none⟩ = some (.pointer (some ⟨t, 0, none⟩)) := by
    rw [World.cell?_alloc_lt _ _ ⟨w.heap.size, 0, none⟩ (by simp)]
    rw [World.cell?_alloc_at _ _ _ _ (by simp)]; rfl
  have ht2 : ((w.alloc (.cells #[.pointer (some ⟨t, 0, none⟩)] 116)).alloc (.cells #[.pointer (some ⟨1, 116, none⟩), .pointer (some ⟨w.heap.size, 0, none⟩), .int .u64 150] 106)).cell? ⟨t, 0, none⟩ = some old := by
    rw [World.cell?_alloc_lt _ _ _ (by show t < _; simp; omega), World.cell?_alloc_lt _ _ _ htl]; exact ht
  have hf2 : ((w.alloc (.cells #[.pointer (some ⟨t, 0, none⟩)] 116)).alloc (.cells #[.pointer (some ⟨1, 116, none⟩), .pointer (some ⟨w.heap.size, 0, none⟩), .int .u64 150] 106)).frozen? ⟨t, 0, none⟩ = false := by
    rw [World.frozen?_alloc_old _ _ _ (by show t ≠ _; simp; omega), World.frozen?_alloc_old _ _ _ (by show t ≠ _; omega)]; exact hf
  have hq2 : Q w ((w.alloc (.cells #[.pointer (some ⟨t, 0, none⟩)] 116)).alloc (.cells #[.pointer (some ⟨1, 116, none⟩), .pointer (some ⟨w.heap.size, 0, none⟩), .int .u64 150] 106)) := ((Q.refl w).alloc _).alloc _
  have hG : Gap t (t + 1) w ((w.alloc (.cells #[.pointer (some ⟨t, 0, none⟩)] 116)).alloc (.cells #[.pointer (some ⟨1, 116, none⟩), .pointer (some ⟨w.heap.size, 0, none⟩), .int .u64 150] 106)) := (Gap.alloc _ _ t (t + 1)).trans (Gap.alloc _ _ t (t + 1))
  have HQ := Lib.hid hq2
  have HG := Lib.hid hG
  have isn := isNilF ⟨w.heap.size, 0, none⟩ ⟨t, 0, none⟩ ((w.alloc (.cells #[.pointer (some ⟨t, 0, none⟩)] 116)).alloc (.cells #[.pointer (some ⟨1, 116, none⟩), .pointer (some ⟨w.heap.size, 0, none⟩), .int .u64 150] 106)) ha2
  have xcallValueOf := callValueOf
  have xcallVType := callVType
  have xcallVIsNil := callVIsNil
  have xcallKind := callKind
  have xcallElem := callElem
  have xcallImpl := callImpl
  have xvaluePF := valuePF
  have xtypeF := typeF
  have xmKind := mKind
  have xmElem := mElem
  have xmImplements := mImplements
  have xkindPF := kindPF
  have xkindF := kindF
  have xelemF := elemF
  have ximplementsF := implementsF
  clear hq2 hG hg ht hf
  go_enter Tryz.func31, Tryz.ntmps31
  go_wp2_with (go_at_call 57; refine (as_none c _ _ _).mono ?_; rintro e w' ⟨rfl, hr⟩)
  go_ret
  exact ⟨rfl, HQ.out.trans hr⟩
end Fe
end Go.Proofs.YtagpofhencpliaaGreatDoor
