/-
  pt.Ok, pt.Less.
-/
import Derived.Test.YthalnfnfnaknnaaQOn
namespace Go.Proofs.Ythalnfnfnaknnaa
open Go.RowKit Go.Sort

/-- Is it one of the grid? -/
def okP (x y : Int) : Bool := x == near x && y == near y
theorem okP_iff (x y : Int) : okP x y = (decide (-1048576 ≤ x) && decide (x ≤ 1048576) && decide (-1048576 ≤ y) && decide (y ≤ 1048576)) := by
  rw [Bool.eq_iff_iff]
  simp only [okP, Bool.and_eq_true, beq_iff_eq, decide_eq_true_eq]
  have h1 : x = near x ↔ (-1048576 ≤ x ∧ x ≤ 1048576) := by
    unfold near
    split
    · omega
    · split <;> omega
  have h2 : y = near y ↔ (-1048576 ≤ y ∧ y ≤ 1048576) := by
    unfold near
    split
    · omega
    · split <;> omega
  rw [h1, h2, and_assoc, and_assoc, and_assoc]






































































/-- By X, then by Y. -/
def lessP (ax ay bx by' : Int) : Bool := decide (ax < bx) || (ax == bx && decide (ay < by'))

























































end Go.Proofs.Ythalnfnfnaknnaa
