/-
  Directions round a point, as exact numbers tell of them.
-/
import Derived.Test.YtjfnbgjnmjdeeaaQBase
namespace Go.Proofs.Ytjfnbgjnmjdeeaa

/-- Is it no direction? -/
def noneD (d : Pp) : Bool := (d.1 == 0 && d.2 == 0) || decide (4194304 < d.1) || decide (d.1 < -4194304) || decide (4194304 < d.2) || decide (d.2 < -4194304)
def halfD (d : Pp) : Int := if noneD d then -1 else if 0 < d.2 ∨ (d.2 = 0 ∧ 0 < d.1) then 0 else 1
def crossD (a b : Pp) : Int := a.1 * b.2 - b.1 * a.2
def cmpD (a b : Pp) : Int :=
  if halfD a < 0 ∧ halfD b < 0 then 0 else if halfD a < 0 then 1 else if halfD b < 0 then -1 else if halfD a ≠ halfD b then sgn (halfD a - halfD b) else -sgn (crossD a b)

theorem halfD_in (d : Pp) : halfD d = -1 ∨ halfD d = 0 ∨ halfD d = 1 := by
  unfold halfD
  split
  · exact .inl rfl
  · split
    · exact .inr (.inl rfl)
    · exact .inr (.inr rfl)
theorem crossD_anti (a b : Pp) : crossD b a = -crossD a b := by unfold crossD; omega
theorem cmpD_anti (a b : Pp) : cmpD b a = -cmpD a b := by
  unfold cmpD
  have ha := halfD_in a
  have hb := halfD_in b
  rw [crossD_anti, sgn_neg, show halfD b - halfD a = -(halfD a - halfD b) by omega, sgn_neg]
  generalize sgn (halfD a - halfD b) = s
  generalize sgn (crossD a b) = t
  generalize halfD a = x at *
  generalize halfD b = y at *
  rcases ha with rfl | rfl | rfl <;> rcases hb with rfl | rfl | rfl <;> simp

/-- In one half: y above 0, or y nought and x above 0; in the other the same of what is against it. -/
def Up (d : Pp) : Prop := 0 < d.2 ∨ (d.2 = 0 ∧ 0 < d.1)
theorem cross_id (a b c : Pp) : crossD a c * b.2 = crossD a b * c.2 + crossD b c * a.2 := by
  unfold crossD
  grind
theorem up_le {a b c : Pp} (ha : Up a) (hb : Up b) (hc : Up c) (h1 : 0 ≤ crossD a b) (h2 : 0 ≤ crossD b c) : 0 ≤ crossD a c := by
  rcases hb with hb | ⟨hb, hb'⟩
  · have h := cross_id a b c
    have ha2 : 0 ≤ a.2 := by unfold Up at ha; omega
    have hc2 : 0 ≤ c.2 := by unfold Up at hc; omega
    have g1 := Int.mul_nonneg h1 hc2
    have g2 := Int.mul_nonneg h2 ha2
    refine Classical.byContradiction fun hx => ?_
    have := Int.mul_neg_of_neg_of_pos (show crossD a c < 0 by omega) hb
    omega
  · unfold crossD at h1 ⊢
    rw [hb, Int.mul_zero] at h1
    have ha2 : a.2 = 0 := by
      unfold Up at ha
      rcases ha with g | g
      · have := Int.mul_pos hb' g
        omega
      · exact g.1
    rw [ha2, Int.mul_zero]
    have ha1 : 0 < a.1 := by unfold Up at ha; omega
    have hc2 : 0 ≤ c.2 := by unfold Up at hc; omega
    have := Int.mul_nonneg (show 0 ≤ a.1 by omega) hc2
    omega
theorem sgn_nonneg {t : Int} : 0 ≤ sgn t ↔ 0 ≤ t := by unfold sgn; split <;> (try split) <;> omega
theorem sgn_nonpos {t : Int} : sgn t ≤ 0 ↔ t ≤ 0 := by unfold sgn; split <;> (try split) <;> omega
theorem sgn_pos' {t : Int} : 0 < sgn t ↔ 0 < t := by unfold sgn; split <;> (try split) <;> omega
theorem sgn_eq {s t : Int} (h1 : 0 < s ↔ 0 < t) (h2 : s < 0 ↔ t < 0) : sgn s = sgn t := by unfold sgn; split <;> split <;> (try split) <;> (try split) <;> omega
theorem up_same {a b c : Pp} (ha : Up a) (hb : Up b) (h : crossD a b = 0) : sgn (crossD b c) = sgn (crossD a c) := by
  have hid := cross_id a b c
  rw [h, Int.zero_mul, Int.zero_add] at hid
  have pos : ∀ {x y u v : Int}, x * u = y * v → 0 < u → 0 < v → (0 < x ↔ 0 < y) ∧ (x < 0 ↔ y < 0) := by
    intro x y u v e hu hv
    have p : ∀ {x u : Int}, 0 < u → (0 < x ↔ 0 < x * u) ∧ (x < 0 ↔ x * u < 0) := by
      intro x u hu
      refine ⟨⟨fun g => Int.mul_pos g hu, fun g => ?_⟩, ⟨fun g => Int.mul_neg_of_neg_of_pos g hu, fun g => ?_⟩⟩
      · refine Classical.byContradiction fun hx => ?_
        have := Int.mul_nonpos_of_nonpos_of_nonneg (show x ≤ 0 by omega) (show 0 ≤ u by omega)
        omega
      · refine Classical.byContradiction fun hx => ?_
        have := Int.mul_nonneg (show 0 ≤ x by omega) (show 0 ≤ u by omega)
        omega
    have p1 := p (x := x) hu
    have p2 := p (x := y) hv
    rw [e] at p1
    omega
  by_cases hb2 : 0 < b.2
  · by_cases ha2 : 0 < a.2
    · have := pos hid hb2 ha2
      exact sgn_eq (by omega) (by omega)
    · exfalso
      unfold Up at ha
      unfold crossD at h
      have a2 : a.2 = 0 := by omega
      rw [a2, Int.mul_zero] at h
      have := Int.mul_pos (show 0 < a.1 by omega) hb2
      omega
  · have b2 : b.2 = 0 := by unfold Up at hb; omega
    have b1 : 0 < b.1 := by unfold Up at hb; omega
    have a2 : a.2 = 0 := by
      unfold Up at ha
      unfold crossD at h
      rw [b2, Int.mul_zero] at h
      rcases ha with g | g
      · have := Int.mul_pos b1 g
        omega
      · exact g.1
    have a1 : 0 < a.1 := by unfold Up at ha; omega
    unfold crossD
    rw [a2, b2, Int.mul_zero]
    have := pos (x := b.1 * c.2 - 0) (y := a.1 * c.2 - 0) (u := a.1) (v := b.1) (by rw [Int.sub_zero, Int.sub_zero]; ac_rfl) a1 b1
    exact sgn_eq this.1 this.2

def negD (d : Pp) : Pp := (-d.1, -d.2)
theorem cross_neg (a b : Pp) : crossD (negD a) (negD b) = crossD a b := by unfold crossD negD; dsimp only; rw [Int.neg_mul_neg, Int.neg_mul_neg]
theorem half_up {d : Pp} (h : halfD d = 0) : Up d := by
  unfold halfD at h
  split at h
  · cases h
  · split at h
    · assumption
    · cases h
theorem half_down {d : Pp} (h : halfD d = 1) : Up (negD d) := by
  unfold halfD at h
  split at h
  · cases h
  · split at h
    · cases h
    · rename_i h1 h2
      unfold noneD at h1
      simp only [Bool.or_eq_true, Bool.and_eq_true, beq_iff_eq, decide_eq_true_eq] at h1
      unfold Up negD
      dsimp only
      omega
theorem same_le {a b c : Pp} {h : Int} (hh : h = 0 ∨ h = 1) (ha : halfD a = h) (hb : halfD b = h) (hc : halfD c = h) (h1 : 0 ≤ crossD a b) (h2 : 0 ≤ crossD b c) : 0 ≤ crossD a c := by
  rcases hh with rfl | rfl
  · exact up_le (half_up ha) (half_up hb) (half_up hc) h1 h2
  · rw [← cross_neg] at h1 h2 ⊢
    exact up_le (half_down ha) (half_down hb) (half_down hc) h1 h2
theorem same_same {a b c : Pp} {h : Int} (hh : h = 0 ∨ h = 1) (ha : halfD a = h) (hb : halfD b = h) (h1 : crossD a b = 0) : sgn (crossD b c) = sgn (crossD a c) := by
  rcases hh with rfl | rfl
  · exact up_same (half_up ha) (half_up hb) h1
  · rw [← cross_neg] at h1
    rw [← cross_neg b c, ← cross_neg a c]
    exact up_same (half_down ha) (half_down hb) h1
theorem sgn_zero_iff {t : Int} : sgn t = 0 ↔ t = 0 := by unfold sgn; split <;> (try split) <;> omega
/-- Angles are an order. -/
theorem cmpD_trans (a b c : Pp) (h1 : cmpD a b ≤ 0) (h2 : cmpD b c ≤ 0) : cmpD a c ≤ 0 := by
  have key := @same_le a b c
  unfold cmpD at *
  have ha := halfD_in a
  have hb := halfD_in b
  have hc := halfD_in c
  have g1 := sgn_nonneg (t := crossD a b)
  have g2 := sgn_nonneg (t := crossD b c)
  have g3 := sgn_nonneg (t := crossD a c)
  generalize sgn (crossD a b) = A' at *
  generalize sgn (crossD b c) = B' at *
  generalize sgn (crossD a c) = G' at *
  generalize crossD a b = A at *
  generalize crossD b c = B at *
  generalize crossD a c = G at *
  generalize halfD a = x at *
  generalize halfD b = y at *
  generalize halfD c = z at *
  rcases ha with rfl | rfl | rfl <;> rcases hb with rfl | rfl | rfl <;> rcases hc with rfl | rfl | rfl <;> simp [sgn] at h1 h2 ⊢ <;> first | (exact g3.2 (key (h := 0) (.inl rfl) rfl rfl rfl (g1.1 h1) (g2.1 h2))) | (exact g3.2 (key (h := 1) (.inr rfl) rfl rfl rfl (g1.1 h1) (g2.1 h2)))
theorem cmpD_same (a b c : Pp) (h1 : cmpD a b = 0) : cmpD b c = cmpD a c := by
  have key := @same_same a b c
  unfold cmpD at *
  have ha := halfD_in a
  have hb := halfD_in b
  have hc := halfD_in c
  have g1 := sgn_zero_iff (t := crossD a b)
  generalize sgn (crossD a b) = A' at *
  generalize sgn (crossD b c) = B' at *
  generalize sgn (crossD a c) = G' at *
  generalize crossD a b = A at *
  generalize halfD a = x at *
  generalize halfD b = y at *
  generalize halfD c = z at *
  rcases ha with rfl | rfl | rfl <;> rcases hb with rfl | rfl | rfl <;> rcases hc with rfl | rfl | rfl <;> simp [sgn] at h1 ⊢ <;> first | (exact key (h := 0) (.inl rfl) rfl rfl (g1.1 h1)) | (exact key (h := 1) (.inr rfl) rfl rfl (g1.1 h1))
end Go.Proofs.Ytjfnbgjnmjdeeaa
