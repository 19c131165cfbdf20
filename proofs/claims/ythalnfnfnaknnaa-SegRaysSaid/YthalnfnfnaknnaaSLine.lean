/-
  Two segments: Relate by what is shared; on one line.
-/
import Derived.Test.YthalnfnfnaknnaaSPlain
namespace Go.Proofs.Ythalnfnfnaknnaa

/-- Two unlike ends that are on both. -/
def twoB (sa sb sc sd ab ac ad bc bd cd : Bool) : Bool := (sa && sb && !ab) || (sa && sc && !ac) || (sa && sd && !ad) || (sb && sc && !bc) || (sb && sd && !bd) || (sc && sd && !cd)
theorem relB_spec : ∀ sa sb sc sd ab ac ad bc bd cd x : Bool, flagsOk sa sb sc sd ab ac ad bc bd cd = true →
    relB sa sb sc sd ab ac ad bc bd cd x = if twoB sa sb sc sd ab ac ad bc bd cd then 4 else if sa || sb || sc || sd then (if ac || ad || bc || bd then 1 else 2) else if x then 3 else 0 := by decide +kernel
theorem relP_spec (a b c d : Pp) : relP a b c d = if twoB (on2 c d a) (on2 c d b) (on2 a b c) (on2 a b d) (eqp a b) (eqp a c) (eqp a d) (eqp b c) (eqp b d) (eqp c d) then 4 else if on2 c d a || on2 c d b || on2 a b c || on2 a b d then (if eqp a c || eqp a d || eqp b c || eqp b d then 1 else 2) else if crs a b c d then 3 else 0 :=
  relB_spec _ _ _ _ _ _ _ _ _ _ _ (flags_ok a b c d)

def btw2 (s t x : Int) : Bool := decide (min s t ≤ x) && decide (x ≤ max s t)
theorem mul_le_pos {d : Int} (hd : 0 < d) (a b : Int) : a * d ≤ b * d ↔ a ≤ b :=
  ⟨fun h => Classical.byContradiction fun hx => by
    have := Int.mul_lt_mul_of_pos_right (show b < a by omega) hd
    omega, fun h => Int.mul_le_mul_of_nonneg_right h (by omega)⟩
theorem mul_le_neg {d : Int} (hd : d < 0) (a b : Int) : a * d ≤ b * d ↔ b ≤ a := by
  have h := mul_le_pos (d := -d) (by omega) b a
  rw [Int.mul_neg, Int.mul_neg] at h
  omega
theorem btw_mul {d : Int} (hd : d ≠ 0) (s t x : Int) : (min (s * d) (t * d) ≤ x * d ∧ x * d ≤ max (s * d) (t * d)) ↔ (min s t ≤ x ∧ x ≤ max s t) := by
  rcases (show 0 < d ∨ d < 0 by omega) with h | h
  · have h1 := mul_le_pos h s x; have h2 := mul_le_pos h x s; have h3 := mul_le_pos h t x; have h4 := mul_le_pos h x t
    generalize s * d = S at *
    generalize t * d = U at *
    generalize x * d = Z at *
    omega
  · have h1 := mul_le_neg h s x; have h2 := mul_le_neg h x s; have h3 := mul_le_neg h t x; have h4 := mul_le_neg h x t
    generalize s * d = S at *
    generalize t * d = U at *
    generalize x * d = Z at *
    omega
theorem line_area0 (s t x d e : Int) : area (s * d) (s * e) (t * d) (t * e) (x * d) (x * e) = 0 := by
  unfold area
  rw [← Int.sub_mul, ← Int.sub_mul, ← Int.sub_mul, ← Int.sub_mul, show (t - s) * d * ((x - s) * e) = (t - s) * e * ((x - s) * d) by ac_rfl]
  omega
theorem on_line {d e : Int} (hz : ¬ (d = 0 ∧ e = 0)) (s t x : Int) : on2 (s * d, s * e) (t * d, t * e) (x * d, x * e) = btw2 s t x := by
  unfold on2 onP inBox btw2 ovl
  dsimp only
  rw [line_area0]
  have h1 : d = 0 → s * d = 0 ∧ t * d = 0 ∧ x * d = 0 := fun h => by subst h; simp
  have h2 : e = 0 → s * e = 0 ∧ t * e = 0 ∧ x * e = 0 := fun h => by subst h; simp
  have h3 : d ≠ 0 → _ := fun h => btw_mul h s t x
  have h4 : e ≠ 0 → _ := fun h => btw_mul h s t x
  generalize s * d = S at *
  generalize t * d = U at *
  generalize x * d = Z at *
  generalize s * e = S' at *
  generalize t * e = U' at *
  generalize x * e = Z' at *
  rw [Bool.eq_iff_iff]
  simp only [Bool.and_eq_true, decide_eq_true_eq, BEq.rfl, true_and]
  by_cases hd : d = 0
  · have he : e ≠ 0 := fun h => hz ⟨hd, h⟩
    have := h1 hd
    have := h4 he
    omega
  · have := h3 hd
    by_cases he : e = 0
    · have := h2 he
      omega
    · have := h4 he
      omega
theorem eqp_line {d e : Int} (hz : ¬ (d = 0 ∧ e = 0)) (s t : Int) : eqp (s * d, s * e) (t * d, t * e) = decide (s = t) := by
  rw [Bool.eq_iff_iff, eqp_iff, decide_eq_true_eq]
  constructor
  · intro h
    injection h with h1 h2
    by_cases hd : d = 0
    · exact Int.eq_of_mul_eq_mul_right (fun h => hz ⟨hd, h⟩) h2
    · exact Int.eq_of_mul_eq_mul_right hd h1
  · rintro rfl
    rfl
theorem crs_line (s t u v d e : Int) : crs (s * d, s * e) (t * d, t * e) (u * d, u * e) (v * d, v * e) = false := by
  unfold crs tr2
  dsimp only
  rw [line_area0]
  simp [sgn]

theorem btw2_le {s t x : Int} (h : s ≤ t) : btw2 s t x = (decide (s ≤ x) && decide (x ≤ t)) := by
  unfold btw2
  rw [Int.min_eq_left h, Int.max_eq_right h]
def LineSays (lo hi t0 t1 t2 t3 k : Int) : Prop :=
  (hi < lo → k = 0) ∧ (lo < hi → k = 4) ∧ (lo = hi → (lo = t0 ∨ lo = t1) ∧ (lo = t2 ∨ lo = t3) → k = 1) ∧ (lo = hi → ¬ ((lo = t0 ∨ lo = t1) ∧ (lo = t2 ∨ lo = t3)) → k = 2)
set_option maxHeartbeats 2000000 in
theorem relP_line0 {d e : Int} (hz : ¬ (d = 0 ∧ e = 0)) (t0 t1 t2 t3 : Int) (h01 : t0 ≤ t1) (h23 : t2 ≤ t3) :
    LineSays (max t0 t2) (min t1 t3) t0 t1 t2 t3 (relP (t0 * d, t0 * e) (t1 * d, t1 * e) (t2 * d, t2 * e) (t3 * d, t3 * e)) := by
  unfold LineSays
  rw [relP_spec]
  simp only [on_line hz, eqp_line hz, crs_line, btw2_le h01, btw2_le h23]
  refine ⟨fun h => ?_, fun h => ?_, fun h h' => ?_, fun h h' => ?_⟩
  · rw [if_neg, if_neg]
    · rfl
    · simp only [Bool.or_eq_true, Bool.and_eq_true, decide_eq_true_eq]; omega
    · simp only [twoB, Bool.or_eq_true, Bool.and_eq_true, decide_eq_true_eq, Bool.not_eq_true', decide_eq_false_iff_not]; omega
  · rw [if_pos]
    simp only [twoB, Bool.or_eq_true, Bool.and_eq_true, decide_eq_true_eq, Bool.not_eq_true', decide_eq_false_iff_not]
    rcases Int.le_total t0 t2 with g | g <;> rcases Int.le_total t1 t3 with g' | g' <;> omega
  · rw [if_neg, if_pos, if_pos]
    · simp only [Bool.or_eq_true, decide_eq_true_eq]; omega
    · simp only [Bool.or_eq_true, Bool.and_eq_true, decide_eq_true_eq]; omega
    · simp only [twoB, Bool.or_eq_true, Bool.and_eq_true, decide_eq_true_eq, Bool.not_eq_true', decide_eq_false_iff_not]; omega
  · rw [if_neg, if_pos, if_neg]
    · simp only [Bool.or_eq_true, decide_eq_true_eq]; omega
    · simp only [Bool.or_eq_true, Bool.and_eq_true, decide_eq_true_eq]; omega
    · simp only [twoB, Bool.or_eq_true, Bool.and_eq_true, decide_eq_true_eq, Bool.not_eq_true', decide_eq_false_iff_not]; omega
/-- How segments on one line stand, by their places on it. -/
theorem relP_line {d e : Int} (hz : ¬ (d = 0 ∧ e = 0)) (t0 t1 t2 t3 : Int) :
    LineSays (max (min t0 t1) (min t2 t3)) (min (max t0 t1) (max t2 t3)) t0 t1 t2 t3 (relP (t0 * d, t0 * e) (t1 * d, t1 * e) (t2 * d, t2 * e) (t3 * d, t3 * e)) := by
  have hs : ∀ {lo hi a b c f k : Int}, LineSays lo hi b a c f k → LineSays lo hi a b c f k := fun ⟨h1, h2, h3, h4⟩ => ⟨h1, h2, fun e h => h3 e (by omega), fun e h => h4 e (by omega)⟩
  have ht : ∀ {lo hi a b c f k : Int}, LineSays lo hi a b f c k → LineSays lo hi a b c f k := fun ⟨h1, h2, h3, h4⟩ => ⟨h1, h2, fun e h => h3 e (by omega), fun e h => h4 e (by omega)⟩
  have hcd : ∀ a b c d : Pp, relP a b d c = relP a b c d := fun a b c d => by rw [← relP_cd, relP_ab, relP_cd]
  rcases Int.le_total t0 t1 with h | h <;> rcases Int.le_total t2 t3 with g | g
  · rw [Int.min_eq_left h, Int.max_eq_right h, Int.min_eq_left g, Int.max_eq_right g]
    exact relP_line0 hz t0 t1 t2 t3 h g
  · rw [Int.min_eq_left h, Int.max_eq_right h, Int.min_eq_right g, Int.max_eq_left g, ← hcd]
    exact ht (relP_line0 hz t0 t1 t3 t2 h g)
  · rw [Int.min_eq_right h, Int.max_eq_left h, Int.min_eq_left g, Int.max_eq_right g, ← relP_ab]
    exact hs (relP_line0 hz t1 t0 t2 t3 h g)
  · rw [Int.min_eq_right h, Int.max_eq_left h, Int.min_eq_right g, Int.max_eq_left g, ← relP_ab, ← hcd]
    exact hs (ht (relP_line0 hz t1 t0 t3 t2 h g))
end Go.Proofs.Ythalnfnfnaknnaa
