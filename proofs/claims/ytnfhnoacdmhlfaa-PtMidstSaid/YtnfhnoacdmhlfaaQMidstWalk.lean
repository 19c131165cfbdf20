/-
  PtMidst: what exact numbers say of a point midway and of one beyond, and the walk with it.
-/
import Derived.Test.YtnfhnoacdmhlfaaQLine
import Derived.Test.YtnfhnoacdmhlfaaQMidst
namespace Go.Proofs.Ytnfhnoacdmhlfaa
open Go.RowKit Go.Sort

theorem mid_on (px py d e : Int) : onP px py (px + 2 * d) (py + 2 * e) (px + d) (py + e) = true := by
  have := line_on (px := px) (py := py) (n := 2) (d := d) (e := e) (k := 1) (by omega)
  rwa [Int.one_mul, Int.one_mul] at this
theorem mid_within {px py d e : Int} (hz : ¬ (d = 0 ∧ e = 0)) : withinP px py (px + 2 * d) (py + 2 * e) (px + d) (py + e) = true := by
  have := line_within (px := px) (py := py) (n := 2) (d := d) (e := e) (k := 1) (by omega) hz
  rwa [Int.one_mul, Int.one_mul] at this
theorem end_on (px py d e : Int) : onP px py (px + 2 * d) (py + 2 * e) (px + 2 * d) (py + 2 * e) = true := line_on (by omega)
theorem end_within {px py d e : Int} (hz : ¬ (d = 0 ∧ e = 0)) : withinP px py (px + 2 * d) (py + 2 * e) (px + 2 * d) (py + 2 * e) = false := line_within (by omega) hz
theorem far_off {px py d e : Int} (hz : ¬ (d = 0 ∧ e = 0)) : onP px py (px + 2 * d) (py + 2 * e) (px + 3 * d) (py + 3 * e) = false := by
  unfold onP inBox
  rcases (show d ≠ 0 ∨ e ≠ 0 by omega) with h | h
  · rw [ovl_false (al := min px (px + 2 * d)) (by omega), Bool.false_and, Bool.and_false]
  · rw [ovl_false (al := min py (py + 2 * e)) (by omega), Bool.and_false, Bool.and_false]
theorem far_turn (px py d e : Int) : sgn (area px py (px + 2 * d) (py + 2 * e) (px + 3 * d) (py + 3 * e)) = 0 := by rw [line_area]; rfl

theorem ptMidst_walk (w : World) (px py : Int) (_ : -9223372036854775808 ≤ px ∧ px ≤ 9223372036854775807) (_ : -9223372036854775808 ≤ py ∧ py ≤ 9223372036854775807) (dx : Int) (_ : -9223372036854775808 ≤ dx) (_ : dx ≤ 9223372036854775807)
    (dy : Int) (_ : -9223372036854775808 ≤ dy) (_ : dy ≤ 9223372036854775807) :
    Calls Try.prog 6 #[pv px py, .int .i64 dx, .int .i64 dy] w fun e w' => e = .returned (.bool true) ∧ Below w.heap.size w w' := by
  have bPX := tmod_both px (m := 1000) (by omega)
  have bPY := tmod_both py (m := 1000) (by omega)
  have bX := tmod_both dx (m := 1000) (by omega)
  have bY := tmod_both dy (m := 1000) (by omega)
  obtain ⟨PX, hPX⟩ : ∃ PX, px.tmod 1000 = PX := ⟨_, rfl⟩
  obtain ⟨PY, hPY⟩ : ∃ PX, py.tmod 1000 = PX := ⟨_, rfl⟩
  obtain ⟨X, hX⟩ : ∃ PX, dx.tmod 1000 = PX := ⟨_, rfl⟩
  obtain ⟨Y, hY⟩ : ∃ PX, dy.tmod 1000 = PX := ⟨_, rfl⟩
  rw [hPX] at bPX; rw [hPY] at bPY; rw [hX] at bX; rw [hY] at bY
  have hp1 := near_in (x := PX) (by omega) (by omega)
  have hp2 := near_in (x := PY) (by omega) (by omega)
  have hm1 := near_in (x := PX + X) (by omega) (by omega)
  have hm2 := near_in (x := PY + Y) (by omega) (by omega)
  have hb1 := near_in (x := PX + 2 * X) (by omega) (by omega)
  have hb2 := near_in (x := PY + 2 * Y) (by omega) (by omega)
  have hc1 := near_in (x := PX + 3 * X) (by omega) (by omega)
  have hc2 := near_in (x := PY + 3 * Y) (by omega) (by omega)
  have HO1 := hid (fun W => on_any PX PY (PX + 2 * X) (PY + 2 * Y) (PX + X) (PY + Y) W)
  rw [hp1, hp2, hb1, hb2, hm1, hm2, mid_on] at HO1
  have HW1 := hid (fun W => within_any PX PY (PX + 2 * X) (PY + 2 * Y) (PX + X) (PY + Y) W)
  rw [hp1, hp2, hb1, hb2, hm1, hm2] at HW1
  have HO3 := hid (fun W => on_any PX PY (PX + 2 * X) (PY + 2 * Y) (PX + 3 * X) (PY + 3 * Y) W)
  rw [hp1, hp2, hb1, hb2, hc1, hc2] at HO3
  by_cases hz : X = 0 ∧ Y = 0
  · have hw : withinP PX PY (PX + 2 * X) (PY + 2 * Y) (PX + X) (PY + Y) = false := by
      rw [hz.1, hz.2]
      unfold withinP
      simp
    have ho : onP PX PY (PX + 2 * X) (PY + 2 * Y) (PX + 3 * X) (PY + 3 * Y) = true := by
      have h2 := mid_on PX PY X Y
      rw [hz.1, hz.2] at h2 ⊢
      exact h2
    rw [hw] at HW1
    rw [ho] at HO3
    exact ptMidst_zero w px py dx dy PX PY X Y hPX hPY hX hY bPX bPY bX bY (by simp [hz.1]) (by simp [hz.2]) HO1 HW1 HO3
  · rw [mid_within hz] at HW1
    rw [far_off hz] at HO3
    have HO2 := hid (fun W => on_any PX PY (PX + 2 * X) (PY + 2 * Y) (PX + 2 * X) (PY + 2 * Y) W)
    rw [hp1, hp2, hb1, hb2, end_on] at HO2
    have HW2 := hid (fun W => within_any PX PY (PX + 2 * X) (PY + 2 * Y) (PX + 2 * X) (PY + 2 * Y) W)
    rw [hp1, hp2, hb1, hb2, end_within hz] at HW2
    have HT := hid (fun W => turn_any PX PY (PX + 2 * X) (PY + 2 * Y) (PX + 3 * X) (PY + 3 * Y) W)
    rw [hp1, hp2, hb1, hb2, hc1, hc2, far_turn] at HT
    refine ptMidst_some w px py dx dy PX PY X Y hPX hPY hX hY bPX bPY bX bY ?_ HO1 HW1 HO2 HW2 HO3 HT
    simp only [beq_eq_false_iff_ne, beq_iff_eq]
    omega
end Go.Proofs.Ytnfhnoacdmhlfaa
