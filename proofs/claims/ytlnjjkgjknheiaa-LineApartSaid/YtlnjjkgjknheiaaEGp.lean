/-
  pt's Turn and On of points of the grid.
-/
import Derived.Test.YtlnjjkgjknheiaaEHeld
namespace Go.Proofs.Ytlnjjkgjknheiaa
open Go.RowKit Go.Sort

/-- A point of the grid. -/
def Gp (p : Pp) : Prop := near p.1 = p.1 ∧ near p.2 = p.2
theorem turn_gp {a b c : Pp} (ha : Gp a) (hb : Gp b) (hc : Gp c) (w : World) :
    Calls Try.prog 59 #[pv a.1 a.2, pv b.1 b.2, pv c.1 c.2] w fun e w' => e = .returned (.int .i64 (tr2 a b c)) ∧ Below w.heap.size w w' := by
  have := turn_any a.1 a.2 b.1 b.2 c.1 c.2 w
  rw [ha.1, ha.2, hb.1, hb.2, hc.1, hc.2] at this
  exact this
theorem on_gp {a b p : Pp} (ha : Gp a) (hb : Gp b) (hp : Gp p) (w : World) :
    Calls Try.prog 54 #[pv a.1 a.2, pv b.1 b.2, pv p.1 p.2] w fun e w' => e = .returned (.bool (on2 a b p)) ∧ Below w.heap.size w w' := by
  have := on_any a.1 a.2 b.1 b.2 p.1 p.2 w
  rw [ha.1, ha.2, hb.1, hb.2, hp.1, hp.2] at this
  exact this
theorem gp_near (x y : Int) : Gp (near x, near y) := ⟨near_near x, near_near y⟩
end Go.Proofs.Ytlnjjkgjknheiaa
