/-
  Lines whose boxes don't meet are apart.
-/
import Derived.Test.YtlnjjkgjknheiaaMG
namespace Go.Proofs.Ytlnjjkgjknheiaa

theorem near_mono {x y : Int} (h : x ≤ y) : near x ≤ near y := by
  unfold near
  split <;> split <;> (try split) <;> (try split) <;> omega
theorem sgn_opp {s t : Int} (h : sgn s * sgn t < 0) : (0 < s ∧ t < 0) ∨ (s < 0 ∧ 0 < t) := by
  unfold sgn at h
  split at h <;> (try split at h) <;> (try split at h) <;> first | omega | (simp at h)
theorem pos_mul {s t : Int} (hs : 0 < s) (ht : 0 < t) : 0 < s * t := Int.mul_pos hs ht
theorem far_sign {u v x y z : Int} (hu : 0 < u) (hv : 0 < v) (h : 0 = u * x + (-v) * y + z) (hxy : (0 < x ∧ y < 0) ∨ (x < 0 ∧ 0 < y)) : (0 < x ∧ z < 0) ∨ (x < 0 ∧ 0 < z) := by
  rcases hxy with ⟨hx, hy⟩ | ⟨hx, hy⟩
  · have h1 := Int.mul_pos hu hx
    have h2 := Int.mul_pos hv (show 0 < -y by omega)
    rw [Int.mul_neg] at h2
    rw [Int.neg_mul] at h
    exact .inl ⟨hx, by omega⟩
  · have h1 := Int.mul_pos hu (show 0 < -x by omega)
    have h2 := Int.mul_pos hv hy
    rw [Int.mul_neg] at h1
    rw [Int.neg_mul] at h
    exact .inr ⟨hx, by omega⟩
theorem same_sign {t x y : Int} (hx : t * x < 0) (hy : t * y < 0) : ¬ ((0 < x ∧ y < 0) ∨ (x < 0 ∧ 0 < y)) := by
  rcases Int.lt_trichotomy t 0 with ht | ht | ht
  · rintro (⟨h1, h2⟩ | ⟨h1, h2⟩)
    · have := Int.mul_pos_of_neg_of_neg ht h2; omega
    · have := Int.mul_pos_of_neg_of_neg ht h1; omega
  · subst ht; simp at hx
  · rintro (⟨h1, h2⟩ | ⟨h1, h2⟩)
    · have := Int.mul_pos ht h1; omega
    · have := Int.mul_pos ht h2; omega
theorem pos_sign {t x y : Int} (hx : 0 < t * x) (hy : 0 < t * y) : ¬ ((0 < x ∧ y < 0) ∨ (x < 0 ∧ 0 < y)) := by
  refine same_sign (t := -t) ?_ ?_
  · rw [Int.neg_mul]; omega
  · rw [Int.neg_mul]; omega
/-- Segments one of which lies wholly at the left of the other don't cross. -/
theorem crs_far {a b c d : Pp} (h1 : a.1 < c.1) (h2 : a.1 < d.1) (h3 : b.1 < c.1) (h4 : b.1 < d.1) : crs a b c d = false := by
  cases hx : crs a b c d with
  | false => rfl
  | true =>
    exfalso
    unfold crs at hx
    simp only [Bool.and_eq_true, decide_eq_true_eq] at hx
    obtain ⟨⟨_, hA⟩, hC⟩ := hx
    have hA' := sgn_opp hA
    have hC' := sgn_opp hC
    have e1 := side_lin a b c d a
    have e2 := side_lin a b c d b
    rw [area_aba, Int.mul_zero] at e1
    rw [area_abb, Int.mul_zero] at e2
    generalize area a.1 a.2 b.1 b.2 c.1 c.2 = Ac at *
    generalize area a.1 a.2 b.1 b.2 d.1 d.2 = Ad at *
    generalize area c.1 c.2 d.1 d.2 a.1 a.2 = Ca at *
    generalize area c.1 c.2 d.1 d.2 b.1 b.2 = Cb at *
    rw [show a.1 - c.1 = -(c.1 - a.1) by omega] at e1
    rw [show b.1 - c.1 = -(c.1 - b.1) by omega] at e2
    have f1 := far_sign (by omega) (by omega) e1 hA'
    have f2 := far_sign (by omega) (by omega) e2 hA'
    rcases f1 with ⟨g1, g2⟩ | ⟨g1, g2⟩
    · rcases f2 with ⟨_, g3⟩ | ⟨g3, _⟩
      · exact same_sign g2 g3 hC'
      · omega
    · rcases f2 with ⟨g3, _⟩ | ⟨_, g3⟩
      · omega
      · exact pos_sign g2 g3 hC'
theorem relB_far : ∀ ab ac ad bc bd cd : Bool, relB false false false false ab ac ad bc bd cd false = 0 := by decide +kernel
theorem on_far {c d p : Pp} (h1 : p.1 < c.1) (h2 : p.1 < d.1) : on2 c d p = false := by
  cases h : on2 c d p with
  | false => rfl
  | true => have := on_box h; omega
theorem on_far' {c d p : Pp} (h1 : c.1 < p.1) (h2 : d.1 < p.1) : on2 c d p = false := by
  cases h : on2 c d p with
  | false => rfl
  | true => have := on_box h; omega
theorem relP_left {a b c d : Pp} (h1 : a.1 < c.1) (h2 : a.1 < d.1) (h3 : b.1 < c.1) (h4 : b.1 < d.1) : relP a b c d = 0 := by
  unfold relP
  rw [on_far h1 h2, on_far h3 h4, on_far' h1 h3, on_far' h2 h4, crs_far h1 h2 h3 h4]
  exact relB_far _ _ _ _ _ _
theorem relP_right {a b c d : Pp} (h1 : c.1 < a.1) (h2 : d.1 < a.1) (h3 : c.1 < b.1) (h4 : d.1 < b.1) : relP a b c d = 0 := by
  rw [← relP_cd]
  exact relP_left h1 h3 h2 h4
theorem relP_below {a b c d : Pp} (h1 : a.2 < c.2) (h2 : a.2 < d.2) (h3 : b.2 < c.2) (h4 : b.2 < d.2) : relP a b c d = 0 := by
  rw [← relP_mirror]
  exact relP_left h1 h2 h3 h4
theorem relP_above {a b c d : Pp} (h1 : c.2 < a.2) (h2 : d.2 < a.2) (h3 : c.2 < b.2) (h4 : d.2 < b.2) : relP a b c d = 0 := by
  rw [← relP_mirror]
  exact relP_right h1 h2 h3 h4

theorem foldl_in : ∀ (qs : List Pp) (b : Int × Int × Int × Int), (qs.foldl boxS b).1 ≤ b.1 ∧ (qs.foldl boxS b).2.1 ≤ b.2.1 ∧ b.2.2.1 ≤ (qs.foldl boxS b).2.2.1 ∧ b.2.2.2 ≤ (qs.foldl boxS b).2.2.2 ∧
    ∀ p ∈ qs, (qs.foldl boxS b).1 ≤ near p.1 ∧ near p.1 ≤ (qs.foldl boxS b).2.2.1 ∧ (qs.foldl boxS b).2.1 ≤ near p.2 ∧ near p.2 ≤ (qs.foldl boxS b).2.2.2
  | [], b => ⟨Int.le_refl _, Int.le_refl _, Int.le_refl _, Int.le_refl _, fun p hp => by cases hp⟩
  | q :: qs, b => by
    rw [List.foldl_cons]
    obtain ⟨h1, h2, h3, h4, h5⟩ := foldl_in qs (boxS b q)
    generalize qs.foldl boxS (boxS b q) = r at *
    unfold boxS at h1 h2 h3 h4
    dsimp only at h1 h2 h3 h4
    refine ⟨by omega, by omega, by omega, by omega, fun p hp => ?_⟩
    rcases List.mem_cons.1 hp with rfl | hp
    · exact ⟨by omega, by omega, by omega, by omega⟩
    · exact h5 p hp
theorem box_in {ps : List Pp} {p : Pp} (hp : p ∈ ps) : (boxL ps).1 ≤ near p.1 ∧ near p.1 ≤ (boxL ps).2.2.1 ∧ (boxL ps).2.1 ≤ near p.2 ∧ near p.2 ≤ (boxL ps).2.2.2 := by
  cases ps with
  | nil => cases hp
  | cons q qs =>
    obtain ⟨h1, h2, h3, h4, h5⟩ := foldl_in qs (near q.1, near q.2, near q.1, near q.2)
    rcases List.mem_cons.1 hp with rfl | hp
    · exact ⟨h1, h3, h2, h4⟩
    · exact h5 p hp
theorem box_near {ps : List Pp} {i : Nat} (hi : i < ps.length) : near (boxL ps).1 ≤ (clP (lpt ps i)).1 ∧ (clP (lpt ps i)).1 ≤ near (boxL ps).2.2.1 ∧ near (boxL ps).2.1 ≤ (clP (lpt ps i)).2 ∧ (clP (lpt ps i)).2 ≤ near (boxL ps).2.2.2 := by
  obtain ⟨h1, h2, h3, h4⟩ := box_in (List.mem_of_getElem? (at_lpt hi))
  have k1 := near_mono h1; have k2 := near_mono h2; have k3 := near_mono h3; have k4 := near_mono h4
  rw [near_near] at k1 k2 k3 k4
  exact ⟨k1, k2, k3, k4⟩
/-- Do the boxes of two lists of points meet? -/
def bmeet (ps qs : List Pp) : Bool := ovl (near (boxL ps).1) (near (boxL ps).2.2.1) (near (boxL qs).1) (near (boxL qs).2.2.1) && ovl (near (boxL ps).2.1) (near (boxL ps).2.2.2) (near (boxL qs).2.1) (near (boxL qs).2.2.2)
theorem far_zero {ps qs : List Pp} (h : bmeet ps qs = false) {i k : Nat} (hi : i < ps.length - 1) (hk : k < qs.length - 1) : sgR ps qs i k = 0 := by
  unfold sgR
  have a1 := box_near (ps := ps) (i := i) (by omega)
  have a2 := box_near (ps := ps) (i := i + 1) (by omega)
  have b1 := box_near (ps := qs) (i := k) (by omega)
  have b2 := box_near (ps := qs) (i := k + 1) (by omega)
  unfold bmeet at h
  generalize near (boxL ps).1 = alx at *
  generalize near (boxL ps).2.1 = aly at *
  generalize near (boxL ps).2.2.1 = ahx at *
  generalize near (boxL ps).2.2.2 = ahy at *
  generalize near (boxL qs).1 = blx at *
  generalize near (boxL qs).2.1 = bly at *
  generalize near (boxL qs).2.2.1 = bhx at *
  generalize near (boxL qs).2.2.2 = bhy at *
  generalize clP (lpt ps i) = A at *
  generalize clP (lpt ps (i + 1)) = B at *
  generalize clP (lpt qs k) = C at *
  generalize clP (lpt qs (k + 1)) = D at *
  by_cases g1 : ahx < blx
  · exact relP_left (by omega) (by omega) (by omega) (by omega)
  · by_cases g2 : bhx < alx
    · exact relP_right (by omega) (by omega) (by omega) (by omega)
    · by_cases g3 : ahy < bly
      · exact relP_below (by omega) (by omega) (by omega) (by omega)
      · by_cases g4 : bhy < aly
        · exact relP_above (by omega) (by omega) (by omega) (by omega)
        · rw [ovl_true (by omega), ovl_true (by omega)] at h
          cases h
theorem apart_far {ps qs : List Pp} (h : bmeet ps qs = false) : apartL ps qs = true := by
  refine apartL_true fun i hi k hk => ?_
  unfold meetL
  rw [far_zero h hi hk]
  rfl
/-- Segments whose boxes don't meet have no point in common. -/
theorem meet_far {ps qs : List Pp} {i k : Nat} (h : bmeet [lpt ps i, lpt ps (i + 1)] [lpt qs k, lpt qs (k + 1)] = false) : meetL ps qs i k = true := by
  have hz : sgR ps qs i k = 0 := far_zero (i := 0) (k := 0) h (by simp) (by simp)
  unfold meetL
  rw [hz]
  rfl
end Go.Proofs.Ytlnjjkgjknheiaa
