/-
  The document's Relate and Shared.
-/
import Derived.Test.YtepnjknblppfcaaSRel
namespace Go.Proofs.Ytepnjknblppfcaa
open Go.RowKit Go.Sort

theorem sgn_in (t : Int) : sgn t = -1 ∨ sgn t = 0 ∨ sgn t = 1 := by unfold sgn; split <;> (try split) <;> simp
theorem tr_mul (a b c d e f : Pp) : -1 ≤ tr2 a b c * tr2 d e f ∧ tr2 a b c * tr2 d e f ≤ 1 := by
  unfold tr2
  rcases sgn_in (area a.1 a.2 b.1 b.2 c.1 c.2) with h | h | h <;> rcases sgn_in (area d.1 d.2 e.1 e.2 f.1 f.2) with g | g | g <;> rw [h, g] <;> decide

theorem refRelate_any (ax ay bx by' cx cy dx dy : Int) (w : World) :
    Calls Try.prog 40 #[pv ax ay, pv bx by', pv cx cy, pv dx dy] w fun e w' => e = .returned (.int .i64 (relP (near ax, near ay) (near bx, near by') (near cx, near cy) (near dx, near dy))) ∧ Below w.heap.size w w' := by
  have hn : ∀ q ∈ ([(near ax, near ay), (near bx, near by'), (near cx, near cy), (near dx, near dy)] : List Pp), near q.1 = q.1 ∧ near q.2 = q.2 := by
    intro q hq
    simp only [List.mem_cons, List.not_mem_nil, or_false] at hq
    rcases hq with rfl | rfl | rfl | rfl <;> exact ⟨near_near _, near_near _⟩
  have h := refRelate_core w ax ay bx by' cx cy dx dy (near ax) (near ay) (near bx) (near by') (near cx) (near cy) (near dx) (near dy) (tr2 (near ax, near ay) (near bx, near by') (near cx, near cy)) (tr2 (near ax, near ay) (near bx, near by') (near dx, near dy)) (tr2 (near cx, near cy) (near dx, near dy) (near ax, near ay)) (tr2 (near cx, near cy) (near dx, near dy) (near bx, near by')) _ _ _ (hid rfl)
    (hid fun W => refClean_any ax ay W) (hid fun W => refClean_any bx by' W) (hid fun W => refClean_any cx cy W) (hid fun W => refClean_any dx dy W)
    (hid fun q hq W => by
      have := refOn_any (near ax) (near ay) (near bx) (near by') q.1 q.2 W
      rwa [near_near, near_near, near_near, near_near, (hn q hq).1, (hn q hq).2] at this)
    (hid fun q hq W => by
      have := refOn_any (near cx) (near cy) (near dx) (near dy) q.1 q.2 W
      rwa [near_near, near_near, near_near, near_near, (hn q hq).1, (hn q hq).2] at this)
    (hid fun W => by
      have := refTurn_any (near ax) (near ay) (near bx) (near by') (near cx) (near cy) W
      simp only [near_near] at this
      exact this)
    (hid fun W => by
      have := refTurn_any (near ax) (near ay) (near bx) (near by') (near dx) (near dy) W
      simp only [near_near] at this
      exact this)
    (hid fun W => by
      have := refTurn_any (near cx) (near cy) (near dx) (near dy) (near ax) (near ay) W
      simp only [near_near] at this
      exact this)
    (hid fun W => by
      have := refTurn_any (near cx) (near cy) (near dx) (near dy) (near bx) (near by') W
      simp only [near_near] at this
      exact this)
    rfl rfl (tr_mul _ _ _ _ _ _) (tr_mul _ _ _ _ _ _) (hid rfl)
  rw [relL_eq] at h
  exact h

/-- The end that two segments share. -/
def shdP (a b c d : Pp) : Pp × Bool := if relP a b c d = 1 then (if eqp a c || eqp a d then a else b, true) else ((0, 0), false)






































































































































































end Go.Proofs.Ytepnjknblppfcaa
