/- A function whose text is two regions of plain operations and a return, run by the kernel. -/
import Derived.Test.YtglljkbpdbnhaaaRows
import Derived.Test.YtglljkbpdbnhaaaInts
set_option linter.unusedVariables false
set_option linter.unusedSimpArgs false
namespace Go.Proofs.Ytglljkbpdbnhaaa
open Go.RowKit

/-- Plain operations, one behind the other. -/
def runL (P : Program) : List Oper → Act × World → Option (Act × World)
  | [], x => some x
  | o :: r, x => match o.guard with
    | some _ => none
    | none => match (execOp x.1.eval o).run P x.2 with
      | .ok (.value v) w' => runL P r (x.1.put o.dst v, w')
      | _ => none
theorem wpList_runL {P : Program} {ops : Array Oper} {R : Exit → Act → World → Prop} : ∀ (l : List Oper) (x y : Act × World), runL P l x = some y → R .normal y.1 y.2 → wpList P ops R l x.1 x.2 := by
  intro l
  induction l with
  | nil => intro x y h hR; cases h; exact hR
  | cons o l ih =>
    intro x y h hR
    unfold runL at h
    cases hg : o.guard with
    | some g => rw [hg] at h; cases h
    | none =>
      rw [hg] at h
      simp only at h
      refine wpList_plain hg fun K hK => ?_
      unfold Oper.wp
      split at h
      · rename_i v w' he
        rw [he]
        exact hK _ _ (ih _ _ h hR)
      · cases h
/-- What the whole text leaves. -/
def runF (P : Program) (fn : Func) (l0 l1 : List Oper) (w : World) : Option (Value × World × World) :=
  ((runL P l0 ({ tmps := #[] ++ Array.replicate (fn.ntmps - 0) undef, defers := [] }, w)).bind (runL P l1)).bind fun x =>
    match x.1.defers with
    | [] => match (results fn x.1.tmps).run P x.2 with
      | .ok v w' => some (v, x.2, w')
      | _ => none
    | _ => none
theorem calls_runF {P : Program} {f : FuncId} {fn : Func} {i0 i1 : Nat} {o0 o1 : Array Oper} {w W : World} {v : Value} {R : Ending → World → Prop}
    (hf : P.funcs[f]? = some fn) (hb : fn.body = some ((Code.region i0 o0 false).seq ((Code.region i1 o1 false).seq Code.ret)))
    (hrun : runF P fn o0.toList o1.toList w = some (v, W, W)) (hR : R (.returned v) W) : Calls P f #[] w R := by
  refine calls_of_wp hf hb ?_
  unfold runF at hrun
  rw [Option.bind_eq_some_iff] at hrun
  obtain ⟨y, hy, hrun⟩ := hrun
  rw [Option.bind_eq_some_iff] at hy
  obtain ⟨x, hx, hy⟩ := hy
  apply wp_seq_k; intro K hK
  apply wp_region_list
  refine wpList_runL _ (_, w) x hx ?_
  refine hK _ _ ?_
  apply wp_seq_k; intro K2 hK2
  apply wp_region_list
  refine wpList_runL _ (_, _) y hy ?_
  refine hK2 _ _ ?_
  apply wp_ret
  split at hrun
  · rename_i hd
    split at hrun
    · rename_i v' w' hr
      cases hrun
      exact bodyPost_ret hr hd hR
    · cases hrun
  · cases hrun

end Go.Proofs.Ytglljkbpdbnhaaa
