/-
  Level segments and upright ones: what lies on them, on which side.
-/
import Derived.Test.YtlnjjkgjknheiaaMC
namespace Go.Proofs.Ytlnjjkgjknheiaa

theorem area_level (x0 x1 y px py : Int) : area x0 y x1 y px py = (x1 - x0) * (py - y) := by
  unfold area
  rw [Int.sub_self, Int.zero_mul, Int.sub_zero]
theorem area_upright (x y0 y1 px py : Int) : area x y0 x y1 px py = -((y1 - y0) * (px - x)) := by
  unfold area
  rw [Int.sub_self, Int.zero_mul, Int.zero_sub]
theorem on_level {L x px py y : Int} (_ : x ≤ L) : on2 (x, y) (L, y) (px, py) = true ↔ py = y ∧ x ≤ px ∧ px ≤ L := by
  unfold on2 onP inBox ovl
  dsimp only
  rw [area_level]
  simp only [Bool.and_eq_true, beq_iff_eq, decide_eq_true_eq]
  constructor
  · intro h
    omega
  · rintro ⟨rfl, h1, h2⟩
    refine ⟨by rw [Int.sub_self, Int.mul_zero], ?_⟩
    omega
theorem on_upright {x px py y0 y1 : Int} (h01 : y0 < y1) : on2 (x, y0) (x, y1) (px, py) = true ↔ px = x ∧ y0 ≤ py ∧ py ≤ y1 := by
  unfold on2 onP inBox ovl
  dsimp only
  rw [area_upright]
  simp only [Bool.and_eq_true, beq_iff_eq, decide_eq_true_eq]
  constructor
  · intro h
    omega
  · rintro ⟨rfl, h1, h2⟩
    refine ⟨by rw [Int.sub_self, Int.mul_zero]; rfl, ?_⟩
    omega
theorem sq_nonneg (t : Int) : 0 ≤ t * t := by
  rcases (show 0 ≤ t ∨ t ≤ 0 by omega) with h | h
  · exact Int.mul_nonneg h h
  · have := Int.mul_nonneg (show 0 ≤ -t by omega) (show 0 ≤ -t by omega)
    rwa [Int.neg_mul_neg] at this
theorem b_false {b : Bool} {p : Prop} (h : b = true ↔ p) (hn : ¬ p) : b = false := Bool.eq_false_iff.2 fun e => hn (h.1 e)
theorem eqp_mk (a b c d : Int) : eqp (a, b) (c, d) = true ↔ a = c ∧ b = d := by
  unfold eqp
  simp only [Bool.and_eq_true, beq_iff_eq]
end Go.Proofs.Ytlnjjkgjknheiaa
