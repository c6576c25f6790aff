/- Errors in memory (a code, wrapped so often), and what the library's As answers of one at the program's two targets. -/
import Derived.Test.YtfnojkcklgmoiaaDoorRows
import Derived.Test.YtfnojkcklgmoiaaDoorInts
import Derived.Test.YtfnojkcklgmoiaaDoorGap
import Derived.LaidEql
import Derived.Stop.Asserts
import Derived.RowKitTokens
set_option linter.unusedVariables false
set_option linter.unusedSimpArgs false
namespace Go.Proofs.YtfnojkcklgmoiaaDoor
open Go.RowKit Go.Extern.Stop Go.Stop Go.Extern
namespace Fe

/-- The variable of the library's that As reads. -/
def Handle (w : World) : Prop := w.cell? ⟨0, 0, none⟩ = some (.iface 82 (.agg #[.pointer (some ⟨5, 24, none⟩)]))
theorem Handle.q {w w' : World} (h : Handle w) (hq : Q w w') : Handle w' := by
  unfold Handle at h ⊢
  rw [World.cell?_of_block (w := w) (hq.block (World.block_lt_of_cell? _ _ h))]
  exact h
theorem Handle.pos {w : World} (h : Handle w) : 0 < w.heap.size := World.block_lt_of_cell? _ _ h

/-- Where an error lies: a fault's block and one; nothing of a code. -/
def rank : Value → Nat
  | .iface _ (.pointer (some a)) => a.block + 1
  | _ => 0
/-- An error of a code, wrapped along a path. -/
def EV (w : World) (c : Int) : List ByteArray → Value → Prop
  | [], v => v = .iface 27 (.int .i64 c)
  | p :: ps, v => ∃ b u, v = .iface 47 (.pointer (some ⟨b, 0, none⟩)) ∧ w.heap[b]? = some (.cells #[.string p, u] 51 (0, 0)) ∧ rank u ≤ b ∧ EV w c ps u
theorem EV.q {w w' : World} {c : Int} (hq : Q w w') : ∀ {ps : List ByteArray} {v : Value}, EV w c ps v → EV w' c ps v
  | [], _, h => h
  | _ :: _, _, ⟨b, u, hv, hb, hr, h⟩ => ⟨b, u, hv, by rw [hq.block (Array.getElem?_eq_some_iff.1 hb).1]; exact hb, hr, EV.q hq h⟩
theorem EV.iface {w : World} {c : Int} : ∀ {ps : List ByteArray} {v : Value}, EV w c ps v → ∃ t u, v = .iface t u
  | [], _, h => ⟨_, _, h⟩
  | _ :: _, _, ⟨_, _, h, _⟩ => ⟨_, _, h⟩
theorem EV.rank_lt {w : World} {c : Int} {ps : List ByteArray} {v : Value} (h : EV w c ps v) : rank v ≤ w.heap.size := by
  cases ps with
  | nil => rw [show v = _ from h]; exact Nat.zero_le _
  | cons p ps =>
    obtain ⟨b, u, rfl, hb, _⟩ := h
    exact (Array.getElem?_eq_some_iff.1 hb).1

set_option maxHeartbeats 400000 in
theorem unwrap_any (b : Nat) (p : ByteArray) (u : Value) (w : World) (hb : w.heap[b]? = some (.cells #[.string p, u] 51 (0, 0))) :
    Calls Tryd.prog 26 #[.pointer (some ⟨b, 0, none⟩)] w fun e w' => e = .returned u ∧ w' = w := by
  have c1 : w.cell? ⟨b, 1, none⟩ = some u := by rw [Lib.cell_of_heap hb]; rfl
  go_enter Tryd.func26, Tryd.ntmps26
  go_wp2
  go_ret
  exact ⟨rfl, rfl⟩

end Fe
end Go.Proofs.YtfnojkcklgmoiaaDoor
