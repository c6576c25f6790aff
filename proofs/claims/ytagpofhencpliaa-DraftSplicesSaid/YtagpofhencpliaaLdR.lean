/- A whole struct loaded in a region that draws its order: one law in the place of a walk cell by cell. -/
import Derived.Test.YtagpofhencpliaaRows
import Derived.Test.YtagpofhencpliaaInts
import Derived.Test.YtagpofhencpliaaBlk
set_option linter.unusedVariables false
set_option linter.unusedSimpArgs false
namespace Go.Proofs.Ytagpofhencpliaa
open Go.RowKit
theorem ld_row {o : Oper} {a : Act} {T : TypeId} {x : Operand} {b : Nat} {l : List Value} {uz : World} {fs : _} (ho : o.op = .load T x) (hx : a.eval x = .pointer (some ⟨b, 0, none⟩))
    (hB : Bk uz b T l) (hu : Try.prog.underlying T = some (.struct fs)) (hi : (Try.prog.info? T).map (·.size) = some l.length) :
    (execOp a.eval o).run Try.prog uz = .ok (.value (.agg l.toArray)) uz := by
  have h := run_loadVar_row uz b T T l.toArray (0, 0) _ hB hu rfl (by simpa using hi)
  unfold execOp
  simp only [ho, hx, Instr.loadAt, Instr.sureAddr, Sem.run_bind, Sem.run_pure, Result.andThen_ok, h]
end Go.Proofs.Ytagpofhencpliaa
