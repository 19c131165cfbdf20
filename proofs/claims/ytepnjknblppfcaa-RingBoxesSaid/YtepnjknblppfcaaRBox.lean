/-
  A box as a ring, plain: what lies within it; its area.
-/
import Derived.Test.YtepnjknblppfcaaRPlain
import Derived.Test.YtepnjknblppfcaaSLevel
namespace Go.Proofs.Ytepnjknblppfcaa

/-- The corners of a box, from the lower left one on to the left. -/
def boxQ (a b c d : Int) (i : Nat) : Pp := if i = 0 then (a, b) else if i = 1 then (c, b) else if i = 2 then (c, d) else (a, d)
theorem ray_level (x0 x1 y : Int) (p : Pp) : rayP (x0, y) (x1, y) p = false := by
  unfold rayP
  rw [if_pos]
  simp
theorem ray_upright {x y0 y1 : Int} (h : y0 < y1) (p : Pp) : rayP (x, y0) (x, y1) p = (decide (y0 ≤ p.2) && decide (p.2 < y1) && decide (p.1 < x)) := by
  have key : 0 < tr2 (x, y0) (x, y1) p ↔ p.1 < x := by
    unfold tr2
    dsimp only
    rw [area_upright]
    have hs : ∀ t : Int, 0 < sgn t ↔ 0 < t := fun t => by unfold sgn; split <;> (try split) <;> omega
    rw [hs]
    constructor
    · intro g
      refine Classical.byContradiction fun hx => ?_
      have := Int.mul_nonneg (show 0 ≤ y1 - y0 by omega) (show 0 ≤ p.1 - x by omega)
      omega
    · intro g
      have := Int.mul_pos (show 0 < y1 - y0 by omega) (show 0 < x - p.1 by omega)
      have e : (y1 - y0) * (x - p.1) = -((y1 - y0) * (p.1 - x)) := by rw [← Int.mul_neg]; congr 1; omega
      omega
  unfold rayP
  dsimp only
  rw [Bool.eq_iff_iff]
  by_cases h0 : p.2 < y0
  · rw [if_pos (by rw [decide_eq_true h0, decide_eq_true (show p.2 < y1 by omega)]; rfl)]
    simp only [Bool.and_eq_true, decide_eq_true_eq, Bool.false_eq_true, false_iff]
    omega
  · by_cases h1 : p.2 < y1
    · rw [if_neg (by rw [decide_eq_false h0, decide_eq_true h1]; decide), if_neg (by omega), decide_eq_true_eq, key]
      simp only [Bool.and_eq_true, decide_eq_true_eq]
      omega
    · rw [if_pos (by rw [decide_eq_false h0, decide_eq_false h1]; rfl)]
      simp only [Bool.and_eq_true, decide_eq_true_eq, Bool.false_eq_true, false_iff]
      omega
theorem cN_four (b : Nat → Bool) : cN 4 b = (if b 0 then 1 else 0) + (if b 1 then 1 else 0) + (if b 2 then 1 else 0) + (if b 3 then 1 else 0) := by
  have e : cN 4 b = 0 + (if b 0 then 1 else 0) + (if b 1 then 1 else 0) + (if b 2 then 1 else 0) + (if b 3 then 1 else 0) := rfl
  rw [e]
  omega
theorem ite_one (p : Prop) [Decidable p] : ∃ v : Int, (if p then (1 : Int) else 0) = v ∧ ((v = 1 ∧ p) ∨ (v = 0 ∧ ¬ p)) := by
  by_cases h : p
  · exact ⟨1, if_pos h, .inl ⟨rfl, h⟩⟩
  · exact ⟨0, if_neg h, .inr ⟨rfl, h⟩⟩
theorem boxQ_is (a b c d : Int) : boxQ a b c d 0 = (a, b) ∧ boxQ a b c d 1 = (c, b) ∧ boxQ a b c d 2 = (c, d) ∧ boxQ a b c d 3 = (a, d) := ⟨rfl, rfl, rfl, rfl⟩
set_option maxHeartbeats 1600000 in
/-- Within a box, on it, outside of it. -/
theorem box_inside {a b c d : Int} (hac : a < c) (hbd : b < d) (px py : Int) :
    insideR 4 (boxQ a b c d) (px, py) = if a < px ∧ px < c ∧ b < py ∧ py < d then 1 else if px < a ∨ c < px ∨ py < b ∨ d < py then -1 else 0 := by
  have o : onR 4 (boxQ a b c d) (px, py) = (if on2 (a, b) (c, b) (px, py) then 1 else 0) + (if on2 (c, b) (c, d) (px, py) then 1 else 0) + (if on2 (c, d) (a, d) (px, py) then 1 else 0) + (if on2 (a, d) (a, b) (px, py) then 1 else 0) := cN_four _
  have r : rayR 4 (boxQ a b c d) (px, py) = (if rayP (a, b) (c, b) (px, py) then 1 else 0) + (if rayP (c, b) (c, d) (px, py) then 1 else 0) + (if rayP (c, d) (a, d) (px, py) then 1 else 0) + (if rayP (a, d) (a, b) (px, py) then 1 else 0) := cN_four _
  have o1 : on2 (a, b) (c, b) (px, py) = decide (py = b ∧ a ≤ px ∧ px ≤ c) := by rw [Bool.eq_iff_iff, on_level (by omega), decide_eq_true_eq]
  have o2 : on2 (c, b) (c, d) (px, py) = decide (px = c ∧ b ≤ py ∧ py ≤ d) := by rw [Bool.eq_iff_iff, on_upright hbd, decide_eq_true_eq]
  have o3 : on2 (c, d) (a, d) (px, py) = decide (py = d ∧ a ≤ px ∧ px ≤ c) := by rw [on_ab, Bool.eq_iff_iff, on_level (by omega), decide_eq_true_eq]
  have o4 : on2 (a, d) (a, b) (px, py) = decide (px = a ∧ b ≤ py ∧ py ≤ d) := by rw [on_ab, Bool.eq_iff_iff, on_upright hbd, decide_eq_true_eq]
  have r2 : rayP (c, b) (c, d) (px, py) = decide (b ≤ py ∧ py < d ∧ px < c) := by rw [ray_upright hbd, Bool.eq_iff_iff]; simp only [Bool.and_eq_true, decide_eq_true_eq, and_assoc]
  have r4 : rayP (a, d) (a, b) (px, py) = decide (b ≤ py ∧ py < d ∧ px < a) := by rw [rayP_ab, ray_upright hbd, Bool.eq_iff_iff]; simp only [Bool.and_eq_true, decide_eq_true_eq, and_assoc]
  unfold insideR
  rw [o, r, o1, o2, o3, o4, ray_level, ray_level, r2, r4]
  simp only [decide_eq_true_eq, Bool.false_eq_true, if_false]
  obtain ⟨v1, e1, h1⟩ := ite_one (py = b ∧ a ≤ px ∧ px ≤ c)
  obtain ⟨v2, e2, h2⟩ := ite_one (px = c ∧ b ≤ py ∧ py ≤ d)
  obtain ⟨v3, e3, h3⟩ := ite_one (py = d ∧ a ≤ px ∧ px ≤ c)
  obtain ⟨v4, e4, h4⟩ := ite_one (px = a ∧ b ≤ py ∧ py ≤ d)
  obtain ⟨v5, e5, h5⟩ := ite_one (b ≤ py ∧ py < d ∧ px < c)
  obtain ⟨v6, e6, h6⟩ := ite_one (b ≤ py ∧ py < d ∧ px < a)
  rw [e1, e2, e3, e4, e5, e6]
  clear o r o1 o2 o3 o4 r2 r4 e1 e2 e3 e4 e5 e6
  by_cases k1 : a < px ∧ px < c ∧ b < py ∧ py < d
  · rw [if_pos k1]
    have z : v1 = 0 ∧ v2 = 0 ∧ v3 = 0 ∧ v4 = 0 ∧ v5 = 1 ∧ v6 = 0 := by omega
    rw [z.1, z.2.1, z.2.2.1, z.2.2.2.1, z.2.2.2.2.1, z.2.2.2.2.2]
    rfl
  · rw [if_neg k1]
    by_cases k2 : px < a ∨ c < px ∨ py < b ∨ d < py
    · rw [if_pos k2, if_neg (by omega), if_neg (by omega)]
    · rw [if_neg k2, if_pos (by omega)]
theorem box_area (w h : Int) : areaR 4 (boxQ 0 0 w h) = 2 * (w * h) := by
  have e : areaR 4 (boxQ 0 0 w h) = 0 + crossI (0, 0) (w, 0) + crossI (w, 0) (w, h) + crossI (w, h) (0, h) + crossI (0, h) (0, 0) := rfl
  rw [e]
  unfold crossI
  dsimp only
  simp only [Int.zero_mul, Int.mul_zero, Int.sub_zero, Int.zero_add, Int.add_zero]
  omega
end Go.Proofs.Ytepnjknblppfcaa
