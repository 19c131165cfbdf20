/-
  New points among calls.
-/
import Derived.Test.YtepnjknblppfcaaHFree
import Derived.Test.YtepnjknblppfcaaQMeet
namespace Go.Proofs.Ytepnjknblppfcaa
open Go.RowKit Go.Sort

theorem exec_newP {o : Oper} (ho : o.op = .alloc 24) (ρ : Operand → Value) (w : World) :
    (execOp ρ o).run Try.prog w = .ok (.value (.pointer (some ⟨w.heap.size, 0, none⟩))) (w.alloc (.cells #[.int .i64 0, .int .i64 0] 24)) := by
  unfold execOp
  rw [ho]
  simp [go_sem, Instr.alloc]
end Go.Proofs.Ytepnjknblppfcaa
