/-
  Where a point lies to a triangle.
-/
import Derived.Test.YtepnjknblppfcaaMH
import Derived.Test.YtepnjknblppfcaaRRefB
namespace Go.Proofs.Ytepnjknblppfcaa

theorem area_none {ax ay bx by' cx cy : Int} : area ax ay bx by' cx cy = 0 ↔ (bx - ax) * (cy - ay) = (by' - ay) * (cx - ax) := by
  unfold area
  omega
theorem on_eqs (a b p : Pp) : on2 a b p = true ↔ (b.1 - a.1) * (p.2 - a.2) = (b.2 - a.2) * (p.1 - a.1) ∧ (min a.1 b.1 ≤ p.1 ∧ p.1 ≤ max a.1 b.1) ∧ (min a.2 b.2 ≤ p.2 ∧ p.2 ≤ max a.2 b.2) := by
  unfold on2 onP inBox ovl
  simp only [Bool.and_eq_true, beq_iff_eq, area_none, decide_eq_true_eq]
  omega

/-- In the triangle, its sides too. -/
def Cl3 (a b c p : Pp) : Prop := 0 ≤ ar a b p ∧ 0 ≤ ar b c p ∧ 0 ≤ ar c a p
theorem ar_on {a b p : Pp} (h : on2 a b p = true) : ar a b p = 0 := by
  have := ((on_eqs a b p).1 h).1
  unfold ar area
  omega
theorem ar_x1 {a b c p : Pp} (h : ar a b p = 0) : (b.1 - a.1) * ar c a p = (p.1 - a.1) * ar a b c := by unfold ar area at *; grind
theorem ar_x2 {a b c p : Pp} (h : ar a b p = 0) : (b.2 - a.2) * ar c a p = (p.2 - a.2) * ar a b c := by unfold ar area at *; grind
theorem ar_x3 {a b c p : Pp} (h : ar a b p = 0) : (b.1 - a.1) * ar b c p = (b.1 - p.1) * ar a b c := by unfold ar area at *; grind
theorem ar_x4 {a b c p : Pp} (h : ar a b p = 0) : (b.2 - a.2) * ar b c p = (b.2 - p.2) * ar a b c := by unfold ar area at *; grind
/-- A product's sign. -/
theorem mul_sg {d t s A : Int} (e : d * t = s * A) (hA : 0 < A) : (0 < d → (0 ≤ t ↔ 0 ≤ s)) ∧ (d < 0 → (0 ≤ t ↔ s ≤ 0)) ∧ (d = 0 → s = 0) := by
  refine ⟨fun hd => ⟨fun ht => ?_, fun hs => ?_⟩, fun hd => ⟨fun ht => ?_, fun hs => ?_⟩, fun hd => ?_⟩
  · rcases Int.lt_or_le s 0 with g | g
    · have h1 := Int.mul_neg_of_neg_of_pos g hA
      have h2 := Int.mul_nonneg (Int.le_of_lt hd) ht
      omega
    · exact g
  · rcases Int.lt_or_le t 0 with g | g
    · have h1 := Int.mul_neg_of_pos_of_neg hd g
      have h2 := Int.mul_nonneg hs (Int.le_of_lt hA)
      omega
    · exact g
  · rcases Int.lt_or_le 0 s with g | g
    · have h1 := Int.mul_pos g hA
      have h2 := Int.mul_nonpos_of_nonpos_of_nonneg (Int.le_of_lt hd) ht
      omega
    · exact g
  · rcases Int.lt_or_le t 0 with g | g
    · have h1 := Int.mul_pos_of_neg_of_neg hd g
      have h2 := Int.mul_nonpos_of_nonpos_of_nonneg hs (Int.le_of_lt hA)
      omega
    · exact g
  · subst hd
    rw [Int.zero_mul] at e
    rcases Int.mul_eq_zero.1 e.symm with g | g
    · exact g
    · omega
theorem on_cl {a b c p : Pp} (hA : 0 < ar a b c) (h : on2 a b p = true) : Cl3 a b c p := by
  have h0 := ar_on h
  obtain ⟨_, ⟨h1, h2⟩, h3, h4⟩ := (on_eqs a b p).1 h
  have m1 := mul_sg (ar_x1 (c := c) h0) hA
  have m2 := mul_sg (ar_x2 (c := c) h0) hA
  have m3 := mul_sg (ar_x3 (c := c) h0) hA
  have m4 := mul_sg (ar_x4 (c := c) h0) hA
  have hne : ¬ (b.1 - a.1 = 0 ∧ b.2 - a.2 = 0) := fun e => by
    unfold ar area at hA
    rw [e.1, e.2, Int.zero_mul, Int.zero_mul] at hA
    omega
  refine ⟨by omega, ?_, ?_⟩
  · rcases Int.lt_trichotomy (b.1 - a.1) 0 with g | g | g
    · exact (m3.2.1 g).2 (by omega)
    · rcases Int.lt_trichotomy (b.2 - a.2) 0 with g' | g' | g'
      · exact (m4.2.1 g').2 (by omega)
      · exact absurd ⟨g, g'⟩ hne
      · exact (m4.1 g').2 (by omega)
    · exact (m3.1 g).2 (by omega)
  · rcases Int.lt_trichotomy (b.1 - a.1) 0 with g | g | g
    · exact (m1.2.1 g).2 (by omega)
    · rcases Int.lt_trichotomy (b.2 - a.2) 0 with g' | g' | g'
      · exact (m2.2.1 g').2 (by omega)
      · exact absurd ⟨g, g'⟩ hne
      · exact (m2.1 g').2 (by omega)
    · exact (m1.1 g).2 (by omega)
theorem cl_on {a b c p : Pp} (hA : 0 < ar a b c) (h0 : ar a b p = 0) (hc : Cl3 a b c p) : on2 a b p = true := by
  obtain ⟨_, hb, hc⟩ := hc
  have m1 := mul_sg (ar_x1 (c := c) h0) hA
  have m2 := mul_sg (ar_x2 (c := c) h0) hA
  have m3 := mul_sg (ar_x3 (c := c) h0) hA
  have m4 := mul_sg (ar_x4 (c := c) h0) hA
  rw [on_eqs]
  refine ⟨by unfold ar area at h0; omega, ?_, ?_⟩
  · rcases Int.lt_trichotomy (b.1 - a.1) 0 with g | g | g
    · have := (m1.2.1 g).1 hc; have := (m3.2.1 g).1 hb; omega
    · have := m1.2.2 g; have := m3.2.2 g; omega
    · have := (m1.1 g).1 hc; have := (m3.1 g).1 hb; omega
  · rcases Int.lt_trichotomy (b.2 - a.2) 0 with g | g | g
    · have := (m2.2.1 g).1 hc; have := (m4.2.1 g).1 hb; omega
    · have := m2.2.2 g; have := m4.2.2 g; omega
    · have := (m2.1 g).1 hc; have := (m4.1 g).1 hb; omega
theorem Cl3.rot {a b c p : Pp} (h : Cl3 a b c p) : Cl3 b c a p := ⟨h.2.1, h.2.2, h.1⟩
theorem pos_rot {a b c : Pp} (h : 0 < ar a b c) : 0 < ar b c a := by rw [ar_rot]; exact h
/-- What is on two sides is a corner. -/
theorem two_zero {a b c p : Pp} (hA : ar a b c ≠ 0) (h1 : ar a b p = 0) (h2 : ar c a p = 0) : p = a := by
  have e1 : ar a b c * (p.1 - a.1) = 0 := by unfold ar area at *; grind
  have e2 : ar a b c * (p.2 - a.2) = 0 := by unfold ar area at *; grind
  have f1 : p.1 - a.1 = 0 := (Int.mul_eq_zero.1 e1).resolve_left hA
  have f2 : p.2 - a.2 = 0 := (Int.mul_eq_zero.1 e2).resolve_left hA
  exact Prod.ext (by omega) (by omega)
theorem cl_a {a b c : Pp} (h : 0 < ar a b c) : Cl3 a b c a := ⟨by rw [ar_aba]; omega, by rw [ar_rot]; omega, by rw [ar_abb]; omega⟩
theorem cl_b {a b c : Pp} (h : 0 < ar a b c) : Cl3 a b c b := (cl_a (pos_rot h)).rot.rot
theorem cl_c {a b c : Pp} (h : 0 < ar a b c) : Cl3 a b c c := (cl_a (pos_rot (pos_rot h))).rot

/-- Outside of it. -/
theorem o3_out {a b c p : Pp} (h : 0 < ar a b c) (hc : ¬ Cl3 a b c p) : w3 a b c p = 0 ∧ o3 a b c p = 0 := by
  have t := (tri_told h p).1 (by unfold Cl3 at hc; omega)
  unfold o3
  exact ⟨t.1, by omega⟩
/-- Strictly in it. -/
theorem o3_in {a b c p : Pp} (h : 0 < ar a b c) (h1 : 0 < ar a b p) (h2 : 0 < ar b c p) (h3 : 0 < ar c a p) : w3 a b c p = 1 ∧ o3 a b c p = 2 := by
  have t := (tri_told h p).2.1 h2 h3 h1
  unfold o3
  exact ⟨t.1, by omega⟩
/-- On a side, and no corner. -/
theorem o3_side {a b c p : Pp} (h : 0 < ar a b c) (hc : Cl3 a b c p) (h0 : ar a b p = 0) (ha : p ≠ a) (hb : p ≠ b) : 0 < ar b c p ∧ 0 < ar c a p ∧ o3 a b c p = 1 ∧ w3 a b c p = if 0 < a.2 - p.2 ∨ (a.2 - p.2 = 0 ∧ 0 < c.2 - p.2) then 1 else 0 := by
  have h2 : ar b c p ≠ 0 := fun e => hb (two_zero (a := b) (b := c) (c := a) (by rw [ar_rot]; omega) e h0)
  have h3 : ar c a p ≠ 0 := fun e => ha (two_zero (a := a) (b := b) (c := c) (by omega) h0 e)
  have h2' : 0 < ar b c p := by have := hc.2.1; omega
  have h3' : 0 < ar c a p := by have := hc.2.2; omega
  have t := (tri_told h p).2.2 h2' h3' h0
  unfold o3
  exact ⟨h2', h3', t.1, t.2⟩
theorem w3_rot (a b c p : Pp) : w3 b c a p = w3 a b c p := by unfold w3; omega
theorem o3_rot (a b c p : Pp) : o3 b c a p = o3 a b c p := by unfold o3 w3 v3; omega
end Go.Proofs.Ytepnjknblppfcaa

namespace Go.Proofs.Ytepnjknblppfcaa

/-- Two for what lies within, one for what is on the ring. -/
def phi (v : Int) : Int := if v = 1 then 2 else if v = 0 then 1 else 0
def phiOf (on : Bool) (w : Int) : Int := if on then 1 else if w % 2 = 1 then 2 else 0
theorem ray_ce (a b p : Pp) : (if rayP a b p then (1 : Int) else 0) % 2 = ce a b p % 2 := by
  have e1 : tr2 a b p = sgn (ar a b p) := rfl
  have e2 : tr2 b a p = -sgn (ar a b p) := by rw [tr_ab]; rfl
  have s1 := @pk_pos (ar a b p)
  have s2 := @pk_lt (ar a b p)
  unfold ce cw
  by_cases h1 : p.2 < a.2 <;> by_cases h2 : p.2 < b.2
  · have r : rayP a b p = false := by simp [rayP, h1, h2]
    rw [r, if_neg (by decide), if_neg (by omega), if_neg (by omega)]
  · have r : rayP a b p = decide (0 < tr2 b a p) := by simp [rayP, h1, h2, show b.2 < a.2 by omega]
    rw [r, e2, if_neg (show ¬ (a.2 - p.2 ≤ 0 ∧ 0 < b.2 - p.2 ∧ 0 < ar a b p) by omega)]
    by_cases h3 : ar a b p < 0
    · rw [decide_eq_true (show 0 < -sgn (ar a b p) by omega), if_pos rfl, if_pos (by omega)]
      rfl
    · rw [decide_eq_false (show ¬ 0 < -sgn (ar a b p) by omega), if_neg (by decide), if_neg (by omega)]
  · have r : rayP a b p = decide (0 < tr2 a b p) := by simp [rayP, h1, h2, show ¬ b.2 < a.2 by omega]
    rw [r, e1]
    by_cases h3 : 0 < ar a b p
    · rw [decide_eq_true (show 0 < sgn (ar a b p) by omega), if_pos rfl, if_pos (by omega)]
    · rw [decide_eq_false (show ¬ 0 < sgn (ar a b p) by omega), if_neg (by decide), if_neg (by omega), if_neg (by omega)]
  · have r : rayP a b p = false := by simp [rayP, h1, h2]
    rw [r, if_neg (by decide), if_neg (by omega), if_neg (by omega)]
theorem clP_in8 {p : Pp} (h : In8 p) : clP p = p := by
  obtain ⟨h1, h2, h3, h4⟩ := h
  unfold clP
  rw [near_in (by omega) (by omega), near_in (by omega) (by omega)]
theorem phi_on {l : List Pp} {p : Pp} {k : Nat} (hk : k < l.length) (h : onAt l p k = true) : phi (insideL l p) = 1 := by rw [insideL_on hk h]; rfl
theorem phi_off {l : List Pp} {p : Pp} {w : Int} (h : ∀ i, i < l.length → onAt l p i = false) (hw : cN l.length (rayAt l p) % 2 = w % 2) : phi (insideL l p) = if w % 2 = 1 then 2 else 0 := by
  rw [insideL_off h]
  unfold oddK
  rw [hw]
  by_cases g : w % 2 = 1
  · rw [decide_eq_true g, if_pos g]; rfl
  · rw [decide_eq_false g, if_neg g]; rfl
theorem phi3 {a b c p : Pp} (ha : In8 a) (hb : In8 b) (hc : In8 c) (hp : In8 p) : phi (insideL [a, b, c] p) = phiOf (on2 a b p || on2 b c p || on2 c a p) (ce a b p + ce b c p + ce c a p) := by
  have o0 : onAt [a, b, c] p 0 = on2 a b p := by
    unfold onAt ringQ
    simp only [List.length_cons, List.length_nil, Nat.reduceAdd, Nat.reduceMod]
    show on2 (clP a) (clP b) (clP p) = _
    rw [clP_in8 ha, clP_in8 hb, clP_in8 hp]
  have t0 : rayAt [a, b, c] p 0 = rayP a b p := by
    unfold rayAt ringQ
    simp only [List.length_cons, List.length_nil, Nat.reduceAdd, Nat.reduceMod]
    show rayP (clP a) (clP b) (clP p) = _
    rw [clP_in8 ha, clP_in8 hb, clP_in8 hp]
  have o1 : onAt [a, b, c] p 1 = on2 b c p := by
    unfold onAt ringQ
    simp only [List.length_cons, List.length_nil, Nat.reduceAdd, Nat.reduceMod]
    show on2 (clP b) (clP c) (clP p) = _
    rw [clP_in8 hb, clP_in8 hc, clP_in8 hp]
  have t1 : rayAt [a, b, c] p 1 = rayP b c p := by
    unfold rayAt ringQ
    simp only [List.length_cons, List.length_nil, Nat.reduceAdd, Nat.reduceMod]
    show rayP (clP b) (clP c) (clP p) = _
    rw [clP_in8 hb, clP_in8 hc, clP_in8 hp]
  have o2 : onAt [a, b, c] p 2 = on2 c a p := by
    unfold onAt ringQ
    simp only [List.length_cons, List.length_nil, Nat.reduceAdd, Nat.reduceMod]
    show on2 (clP c) (clP a) (clP p) = _
    rw [clP_in8 hc, clP_in8 ha, clP_in8 hp]
  have t2 : rayAt [a, b, c] p 2 = rayP c a p := by
    unfold rayAt ringQ
    simp only [List.length_cons, List.length_nil, Nat.reduceAdd, Nat.reduceMod]
    show rayP (clP c) (clP a) (clP p) = _
    rw [clP_in8 hc, clP_in8 ha, clP_in8 hp]
  unfold phiOf
  cases h0 : on2 a b p with
  | true => exact (phi_on (k := 0) (by show 0 < 3; decide) (o0.trans h0)).trans (by simp)
  | false =>
    cases h1 : on2 b c p with
    | true => exact (phi_on (k := 1) (by show 1 < 3; decide) (o1.trans h1)).trans (by simp)
    | false =>
      cases h2 : on2 c a p with
      | true => exact (phi_on (k := 2) (by show 2 < 3; decide) (o2.trans h2)).trans (by simp)
      | false =>
        refine (phi_off (w := ce a b p + ce b c p + ce c a p) (fun i hi => ?_) ?_).trans (by simp)
        · match i, hi with
          | 0, _ => exact o0.trans h0
          | 1, _ => exact o1.trans h1
          | 2, _ => exact o2.trans h2
          | i + 3, hi => exact absurd hi (by show ¬ i + 3 < 3; omega)
        · show (0 + (if rayAt [a, b, c] p 0 then (1 : Int) else 0) + (if rayAt [a, b, c] p 1 then (1 : Int) else 0) + (if rayAt [a, b, c] p 2 then (1 : Int) else 0)) % 2 = _
          rw [t0, t1, t2]
          have r0 := ray_ce a b p; have r1 := ray_ce b c p; have r2 := ray_ce c a p
          omega
theorem phi4 {a b c d p : Pp} (ha : In8 a) (hb : In8 b) (hc : In8 c) (hd : In8 d) (hp : In8 p) : phi (insideL [a, b, c, d] p) = phiOf (on2 a b p || on2 b c p || on2 c d p || on2 d a p) (ce a b p + ce b c p + ce c d p + ce d a p) := by
  have o0 : onAt [a, b, c, d] p 0 = on2 a b p := by
    unfold onAt ringQ
    simp only [List.length_cons, List.length_nil, Nat.reduceAdd, Nat.reduceMod]
    show on2 (clP a) (clP b) (clP p) = _
    rw [clP_in8 ha, clP_in8 hb, clP_in8 hp]
  have t0 : rayAt [a, b, c, d] p 0 = rayP a b p := by
    unfold rayAt ringQ
    simp only [List.length_cons, List.length_nil, Nat.reduceAdd, Nat.reduceMod]
    show rayP (clP a) (clP b) (clP p) = _
    rw [clP_in8 ha, clP_in8 hb, clP_in8 hp]
  have o1 : onAt [a, b, c, d] p 1 = on2 b c p := by
    unfold onAt ringQ
    simp only [List.length_cons, List.length_nil, Nat.reduceAdd, Nat.reduceMod]
    show on2 (clP b) (clP c) (clP p) = _
    rw [clP_in8 hb, clP_in8 hc, clP_in8 hp]
  have t1 : rayAt [a, b, c, d] p 1 = rayP b c p := by
    unfold rayAt ringQ
    simp only [List.length_cons, List.length_nil, Nat.reduceAdd, Nat.reduceMod]
    show rayP (clP b) (clP c) (clP p) = _
    rw [clP_in8 hb, clP_in8 hc, clP_in8 hp]
  have o2 : onAt [a, b, c, d] p 2 = on2 c d p := by
    unfold onAt ringQ
    simp only [List.length_cons, List.length_nil, Nat.reduceAdd, Nat.reduceMod]
    show on2 (clP c) (clP d) (clP p) = _
    rw [clP_in8 hc, clP_in8 hd, clP_in8 hp]
  have t2 : rayAt [a, b, c, d] p 2 = rayP c d p := by
    unfold rayAt ringQ
    simp only [List.length_cons, List.length_nil, Nat.reduceAdd, Nat.reduceMod]
    show rayP (clP c) (clP d) (clP p) = _
    rw [clP_in8 hc, clP_in8 hd, clP_in8 hp]
  have o3 : onAt [a, b, c, d] p 3 = on2 d a p := by
    unfold onAt ringQ
    simp only [List.length_cons, List.length_nil, Nat.reduceAdd, Nat.reduceMod]
    show on2 (clP d) (clP a) (clP p) = _
    rw [clP_in8 hd, clP_in8 ha, clP_in8 hp]
  have t3 : rayAt [a, b, c, d] p 3 = rayP d a p := by
    unfold rayAt ringQ
    simp only [List.length_cons, List.length_nil, Nat.reduceAdd, Nat.reduceMod]
    show rayP (clP d) (clP a) (clP p) = _
    rw [clP_in8 hd, clP_in8 ha, clP_in8 hp]
  unfold phiOf
  cases h0 : on2 a b p with
  | true => exact (phi_on (k := 0) (by show 0 < 4; decide) (o0.trans h0)).trans (by simp)
  | false =>
    cases h1 : on2 b c p with
    | true => exact (phi_on (k := 1) (by show 1 < 4; decide) (o1.trans h1)).trans (by simp)
    | false =>
      cases h2 : on2 c d p with
      | true => exact (phi_on (k := 2) (by show 2 < 4; decide) (o2.trans h2)).trans (by simp)
      | false =>
        cases h3 : on2 d a p with
        | true => exact (phi_on (k := 3) (by show 3 < 4; decide) (o3.trans h3)).trans (by simp)
        | false =>
          refine (phi_off (w := ce a b p + ce b c p + ce c d p + ce d a p) (fun i hi => ?_) ?_).trans (by simp)
          · match i, hi with
            | 0, _ => exact o0.trans h0
            | 1, _ => exact o1.trans h1
            | 2, _ => exact o2.trans h2
            | 3, _ => exact o3.trans h3
            | i + 4, hi => exact absurd hi (by show ¬ i + 4 < 4; omega)
          · show (0 + (if rayAt [a, b, c, d] p 0 then (1 : Int) else 0) + (if rayAt [a, b, c, d] p 1 then (1 : Int) else 0) + (if rayAt [a, b, c, d] p 2 then (1 : Int) else 0) + (if rayAt [a, b, c, d] p 3 then (1 : Int) else 0)) % 2 = _
            rw [t0, t1, t2, t3]
            have r0 := ray_ce a b p; have r1 := ray_ce b c p; have r2 := ray_ce c d p; have r3 := ray_ce d a p
            omega
theorem phi5 {a b c d e p : Pp} (ha : In8 a) (hb : In8 b) (hc : In8 c) (hd : In8 d) (he : In8 e) (hp : In8 p) : phi (insideL [a, b, c, d, e] p) = phiOf (on2 a b p || on2 b c p || on2 c d p || on2 d e p || on2 e a p) (ce a b p + ce b c p + ce c d p + ce d e p + ce e a p) := by
  have o0 : onAt [a, b, c, d, e] p 0 = on2 a b p := by
    unfold onAt ringQ
    simp only [List.length_cons, List.length_nil, Nat.reduceAdd, Nat.reduceMod]
    show on2 (clP a) (clP b) (clP p) = _
    rw [clP_in8 ha, clP_in8 hb, clP_in8 hp]
  have t0 : rayAt [a, b, c, d, e] p 0 = rayP a b p := by
    unfold rayAt ringQ
    simp only [List.length_cons, List.length_nil, Nat.reduceAdd, Nat.reduceMod]
    show rayP (clP a) (clP b) (clP p) = _
    rw [clP_in8 ha, clP_in8 hb, clP_in8 hp]
  have o1 : onAt [a, b, c, d, e] p 1 = on2 b c p := by
    unfold onAt ringQ
    simp only [List.length_cons, List.length_nil, Nat.reduceAdd, Nat.reduceMod]
    show on2 (clP b) (clP c) (clP p) = _
    rw [clP_in8 hb, clP_in8 hc, clP_in8 hp]
  have t1 : rayAt [a, b, c, d, e] p 1 = rayP b c p := by
    unfold rayAt ringQ
    simp only [List.length_cons, List.length_nil, Nat.reduceAdd, Nat.reduceMod]
    show rayP (clP b) (clP c) (clP p) = _
    rw [clP_in8 hb, clP_in8 hc, clP_in8 hp]
  have o2 : onAt [a, b, c, d, e] p 2 = on2 c d p := by
    unfold onAt ringQ
    simp only [List.length_cons, List.length_nil, Nat.reduceAdd, Nat.reduceMod]
    show on2 (clP c) (clP d) (clP p) = _
    rw [clP_in8 hc, clP_in8 hd, clP_in8 hp]
  have t2 : rayAt [a, b, c, d, e] p 2 = rayP c d p := by
    unfold rayAt ringQ
    simp only [List.length_cons, List.length_nil, Nat.reduceAdd, Nat.reduceMod]
    show rayP (clP c) (clP d) (clP p) = _
    rw [clP_in8 hc, clP_in8 hd, clP_in8 hp]
  have o3 : onAt [a, b, c, d, e] p 3 = on2 d e p := by
    unfold onAt ringQ
    simp only [List.length_cons, List.length_nil, Nat.reduceAdd, Nat.reduceMod]
    show on2 (clP d) (clP e) (clP p) = _
    rw [clP_in8 hd, clP_in8 he, clP_in8 hp]
  have t3 : rayAt [a, b, c, d, e] p 3 = rayP d e p := by
    unfold rayAt ringQ
    simp only [List.length_cons, List.length_nil, Nat.reduceAdd, Nat.reduceMod]
    show rayP (clP d) (clP e) (clP p) = _
    rw [clP_in8 hd, clP_in8 he, clP_in8 hp]
  have o4 : onAt [a, b, c, d, e] p 4 = on2 e a p := by
    unfold onAt ringQ
    simp only [List.length_cons, List.length_nil, Nat.reduceAdd, Nat.reduceMod]
    show on2 (clP e) (clP a) (clP p) = _
    rw [clP_in8 he, clP_in8 ha, clP_in8 hp]
  have t4 : rayAt [a, b, c, d, e] p 4 = rayP e a p := by
    unfold rayAt ringQ
    simp only [List.length_cons, List.length_nil, Nat.reduceAdd, Nat.reduceMod]
    show rayP (clP e) (clP a) (clP p) = _
    rw [clP_in8 he, clP_in8 ha, clP_in8 hp]
  unfold phiOf
  cases h0 : on2 a b p with
  | true => exact (phi_on (k := 0) (by show 0 < 5; decide) (o0.trans h0)).trans (by simp)
  | false =>
    cases h1 : on2 b c p with
    | true => exact (phi_on (k := 1) (by show 1 < 5; decide) (o1.trans h1)).trans (by simp)
    | false =>
      cases h2 : on2 c d p with
      | true => exact (phi_on (k := 2) (by show 2 < 5; decide) (o2.trans h2)).trans (by simp)
      | false =>
        cases h3 : on2 d e p with
        | true => exact (phi_on (k := 3) (by show 3 < 5; decide) (o3.trans h3)).trans (by simp)
        | false =>
          cases h4 : on2 e a p with
          | true => exact (phi_on (k := 4) (by show 4 < 5; decide) (o4.trans h4)).trans (by simp)
          | false =>
            refine (phi_off (w := ce a b p + ce b c p + ce c d p + ce d e p + ce e a p) (fun i hi => ?_) ?_).trans (by simp)
            · match i, hi with
              | 0, _ => exact o0.trans h0
              | 1, _ => exact o1.trans h1
              | 2, _ => exact o2.trans h2
              | 3, _ => exact o3.trans h3
              | 4, _ => exact o4.trans h4
              | i + 5, hi => exact absurd hi (by show ¬ i + 5 < 5; omega)
            · show (0 + (if rayAt [a, b, c, d, e] p 0 then (1 : Int) else 0) + (if rayAt [a, b, c, d, e] p 1 then (1 : Int) else 0) + (if rayAt [a, b, c, d, e] p 2 then (1 : Int) else 0) + (if rayAt [a, b, c, d, e] p 3 then (1 : Int) else 0) + (if rayAt [a, b, c, d, e] p 4 then (1 : Int) else 0)) % 2 = _
              rw [t0, t1, t2, t3, t4]
              have r0 := ray_ce a b p; have r1 := ray_ce b c p; have r2 := ray_ce c d p; have r3 := ray_ce d e p; have r4 := ray_ce e a p
              omega

def sumL (f : Pp → Int) : List Pp → Int
  | [] => 0
  | v :: r => f v + sumL f r
theorem sumL_congr {f g : Pp → Int} : ∀ {l : List Pp}, (∀ v ∈ l, f v = g v) → sumL f l = sumL g l
  | [], _ => rfl
  | v :: r, h => by unfold sumL; rw [h v (by simp), sumL_congr (fun u hu => h u (by simp [hu]))]
/-- Two sums that differ at some points alone. -/
theorem gs_off {f : Pp → Int} : ∀ (l : List Pp) (g : Pp → Int), l.Nodup → (∀ v ∈ l, In8 v) → (∀ p, In8 p → p ∉ l → f p = g p) → gs f = gs g + sumL (fun v => f v - g v) l
  | [], g, _, _, h => by
    rw [gs_congr (fun p hp => h p hp (by simp))]
    show _ = _ + 0
    omega
  | v :: r, g, hn, hi, h => by
    have hv : v ∉ r := (List.nodup_cons.1 hn).1
    have q := gs_off (f := f) r (fun p => if p = v then f p else g p) (List.nodup_cons.1 hn).2 (fun u hu => hi u (by simp [hu])) (fun p hp hpr => by
      by_cases e : p = v
      · rw [if_pos e]
      · rw [if_neg e]; exact h p hp (by simp [e, hpr]))
    have e1 : gs (fun p => if p = v then f p else g p) = gs g + (f v - g v) := by
      have e2 : gs (fun p => if p = v then f p else g p) = gs (fun p => g p + if p = v then f v - g v else 0) := gs_congr fun p _ => by
        by_cases e : p = v
        · rw [if_pos e, if_pos e, e]; omega
        · rw [if_neg e, if_neg e]; omega
      rw [e2, gs_add, gs_one (f := fun p => if p = v then f v - g v else 0) (hi v (by simp)) (fun p hp => if_neg hp), if_pos rfl]
    have e3 : sumL (fun u => f u - if u = v then f u else g u) r = sumL (fun u => f u - g u) r := sumL_congr fun u hu => by
      have hne : u ≠ v := fun e => hv (by rw [← e]; exact hu)
      rw [if_neg hne]
    rw [q, e1, e3]
    show _ = gs g + ((f v - g v) + sumL (fun u => f u - g u) r)
    omega

/-- On a diagonal just one of the triangles at its sides is met. -/
theorem diag_odd {a b c d p : Pp} (h1 : 0 < ar a b c) (h2 : 0 < ar a c d) (h0 : ar a c p = 0) (g1 : 0 < ar a b p) (g2 : 0 < ar b c p) :
    (if 0 < c.2 - p.2 ∨ (c.2 - p.2 = 0 ∧ 0 < b.2 - p.2) then (1 : Int) else 0) + (if 0 < a.2 - p.2 ∨ (a.2 - p.2 = 0 ∧ 0 < d.2 - p.2) then 1 else 0) = 1 := by
  have e := ar_ys a b c p
  rw [ar_swap a c, h0, Int.neg_zero, Int.zero_mul, Int.add_zero] at e
  rcases Int.lt_trichotomy (a.2 - p.2) 0 with g | g | g
  · have m1 := Int.mul_neg_of_pos_of_neg g2 g
    have m2 : 0 < c.2 - p.2 := by
      rcases Int.lt_or_le 0 (c.2 - p.2) with k | k
      · exact k
      · have := Int.mul_nonpos_of_nonneg_of_nonpos (Int.le_of_lt g1) k
        omega
    rw [if_pos (.inl m2), if_neg (by omega)]
    rfl
  · rw [g, Int.mul_zero, Int.zero_add] at e
    have m2 : c.2 - p.2 = 0 := by
      rcases Int.mul_eq_zero.1 e with k | k
      · omega
      · exact k
    have e1 : ar a b c = -((b.2 - p.2) * (c.1 - a.1)) := by
      unfold ar area
      rw [show c.2 - a.2 = 0 by omega, Int.mul_zero, show b.2 - a.2 = b.2 - p.2 by omega]
      omega
    have e2 : ar a c d = (d.2 - p.2) * (c.1 - a.1) := by
      unfold ar area
      rw [show c.2 - a.2 = 0 by omega, Int.zero_mul, show d.2 - a.2 = d.2 - p.2 by omega, Int.mul_comm]
      omega
    rcases Int.lt_trichotomy (c.1 - a.1) 0 with k | k | k
    · have b1 : 0 < b.2 - p.2 := by
        rcases Int.lt_or_le 0 (b.2 - p.2) with j | j
        · exact j
        · have := Int.mul_nonneg_of_nonpos_of_nonpos j (Int.le_of_lt k)
          omega
      have b2 : d.2 - p.2 < 0 := by
        rcases Int.lt_or_le (d.2 - p.2) 0 with j | j
        · exact j
        · have := Int.mul_nonpos_of_nonneg_of_nonpos j (Int.le_of_lt k)
          omega
      rw [if_pos (.inr ⟨m2, b1⟩), if_neg (by omega)]
      rfl
    · rw [k, Int.mul_zero] at e2
      omega
    · have b1 : b.2 - p.2 < 0 := by
        rcases Int.lt_or_le (b.2 - p.2) 0 with j | j
        · exact j
        · have := Int.mul_nonneg j (Int.le_of_lt k)
          omega
      have b2 : 0 < d.2 - p.2 := by
        rcases Int.lt_or_le 0 (d.2 - p.2) with j | j
        · exact j
        · have := Int.mul_nonpos_of_nonpos_of_nonneg j (Int.le_of_lt k)
          omega
      rw [if_neg (by omega), if_pos (.inr ⟨g, b2⟩)]
      rfl
  · have m1 := Int.mul_pos g2 g
    have m2 : c.2 - p.2 < 0 := by
      rcases Int.lt_or_le (c.2 - p.2) 0 with k | k
      · exact k
      · have := Int.mul_nonneg (Int.le_of_lt g1) k
        omega
    rw [if_neg (by omega), if_pos (.inl g)]
    rfl
end Go.Proofs.Ytepnjknblppfcaa

namespace Go.Proofs.Ytepnjknblppfcaa

theorem on_no {a b p : Pp} (h : 0 < ar a b p) : on2 a b p = false := by
  cases e : on2 a b p with
  | false => rfl
  | true => have := ar_on e; omega
/-- A point that is no corner, in a triangle: strictly, or on one side. -/
theorem tri_cases {a b c p : Pp} (h : 0 < ar a b c) (hc : Cl3 a b c p) (ha : p ≠ a) (hb : p ≠ b) (hcc : p ≠ c) :
    (0 < ar a b p ∧ 0 < ar b c p ∧ 0 < ar c a p ∧ w3 a b c p = 1 ∧ o3 a b c p = 2) ∨ (on2 a b p = true ∧ o3 a b c p = 1) ∨ (on2 b c p = true ∧ o3 a b c p = 1) ∨ (on2 c a p = true ∧ o3 a b c p = 1) := by
  by_cases h1 : ar a b p = 0
  · exact .inr (.inl ⟨cl_on h h1 hc, (o3_side h hc h1 ha hb).2.2.1⟩)
  · by_cases h2 : ar b c p = 0
    · refine .inr (.inr (.inl ⟨cl_on (pos_rot h) h2 hc.rot, ?_⟩))
      rw [← o3_rot]
      exact (o3_side (pos_rot h) hc.rot h2 hb hcc).2.2.1
    · by_cases h3 : ar c a p = 0
      · refine .inr (.inr (.inr ⟨cl_on (pos_rot (pos_rot h)) h3 hc.rot.rot, ?_⟩))
        rw [← o3_rot, ← o3_rot]
        exact (o3_side (pos_rot (pos_rot h)) hc.rot.rot h3 hcc ha).2.2.1
      · have g1 : 0 < ar a b p := by have := hc.1; omega
        have g2 : 0 < ar b c p := by have := hc.2.1; omega
        have g3 : 0 < ar c a p := by have := hc.2.2; omega
        obtain ⟨t1, t2⟩ := o3_in h g1 g2 g3
        exact .inl ⟨g1, g2, g3, t1, t2⟩
/-- Outside of a triangle nothing is on its sides. -/
theorem off_sides {a b c p : Pp} (h : 0 < ar a b c) (hc : ¬ Cl3 a b c p) : on2 a b p = false ∧ on2 b c p = false ∧ on2 c a p = false := by
  refine ⟨?_, ?_, ?_⟩
  · cases e : on2 a b p with
    | false => rfl
    | true => exact absurd (on_cl h e) hc
  · cases e : on2 b c p with
    | false => rfl
    | true => exact absurd (on_cl (pos_rot h) e).rot.rot hc
  · cases e : on2 c a p with
    | false => rfl
    | true => exact absurd (on_cl (pos_rot (pos_rot h)) e).rot hc
/-- A diagonal is met by two triangles at once. -/
theorem diag_both {a b c d p : Pp} (h1 : 0 < ar a b c) (h2 : 0 < ar a c d) (c1 : Cl3 a b c p) (c2 : Cl3 a c d p) (ha : p ≠ a) (hc : p ≠ c) :
    0 < ar a b p ∧ 0 < ar b c p ∧ 0 < ar c d p ∧ 0 < ar d a p ∧ w3 a b c p + w3 a c d p = 1 ∧ o3 a b c p = 1 ∧ o3 a c d p = 1 := by
  have e0 : ar a c p = 0 := by
    have := c1.2.2
    have := c2.1
    have := ar_swap a c p
    omega
  have e1 : ar c a p = 0 := by rw [ar_swap, e0]; rfl
  obtain ⟨g1, g2, g3, g4⟩ := o3_side (pos_rot (pos_rot h1)) c1.rot.rot e1 hc ha
  obtain ⟨k1, k2, k3, k4⟩ := o3_side h2 c2 e0 ha hc
  have d := diag_odd h1 h2 e0 g1 g2
  rw [w3_rot, w3_rot] at g4
  rw [o3_rot, o3_rot] at g3
  exact ⟨g1, g2, k1, k2, by rw [g4, k4]; exact d, g3, k3⟩
theorem cl_diag {a c d p : Pp} (h2 : 0 < ar a c d) (h : on2 c a p = true) : Cl3 a c d p := on_cl h2 (by rw [on_ab] at h; exact h)
theorem cl_diag' {a b c p : Pp} (h1 : 0 < ar a b c) (h : on2 a c p = true) : Cl3 a b c p := (on_cl (pos_rot (pos_rot h1)) (by rw [on_ab]; exact h)).rot
theorem sep12 {a b c d p : Pp} (_h1 : 0 < ar a b c) (_h2 : 0 < ar a c d) (c1 : Cl3 a b c p) (c2 : Cl3 a c d p) : ar a c p = 0 := by
  have := c1.2.2
  have := c2.1
  have := ar_swap a c p
  omega

theorem fan3_at {a b c p : Pp} (ha : In8 a) (hb : In8 b) (hc : In8 c) (h1 : 0 < ar a b c) (hp : In8 p) (n0 : p ≠ a) (n1 : p ≠ b) (n2 : p ≠ c) : phi (insideL [a, b, c] p) = o3 a b c p := by
  rw [phi3 ha hb hc hp]
  have ew : ce a b p + ce b c p + ce c a p = w3 a b c p := rfl
  rw [ew]
  unfold phiOf
  by_cases c1 : Cl3 a b c p
  · rcases tri_cases h1 c1 n0 n1 n2 with ⟨g1, g2, g3, gw, go⟩ | ⟨g, go⟩ | ⟨g, go⟩ | ⟨g, go⟩
    · rw [on_no g1, on_no g2, on_no g3, gw, go]; rfl
    · rw [g, go]; simp
    · rw [g, go]; simp
    · rw [g, go]; simp
  · obtain ⟨k1, k2, k3⟩ := off_sides h1 c1
    obtain ⟨k4, k5⟩ := o3_out h1 c1
    rw [k1, k2, k3, k4, k5]; rfl

theorem fan4_at {a b c d p : Pp} (ha : In8 a) (hb : In8 b) (hc : In8 c) (hd : In8 d) (h1 : 0 < ar a b c) (h2 : 0 < ar a c d) (hp : In8 p) (n0 : p ≠ a) (n1 : p ≠ b) (n2 : p ≠ c) (n3 : p ≠ d) : phi (insideL [a, b, c, d] p) = o3 a b c p + o3 a c d p := by
  rw [phi4 ha hb hc hd hp]
  have ew : ce a b p + ce b c p + ce c d p + ce d a p = w3 a b c p + w3 a c d p := by
    have := ce_anti a c p
    unfold w3
    omega
  rw [ew]
  unfold phiOf
  by_cases c1 : Cl3 a b c p
  · by_cases c2 : Cl3 a c d p
    · obtain ⟨g1, g2, g3, g4, gw, go1, go2⟩ := diag_both h1 h2 c1 c2 n0 n2
      rw [on_no g1, on_no g2, on_no g3, on_no g4, gw, go1, go2]; rfl
    · obtain ⟨k1, k2, k3⟩ := off_sides h2 c2
      obtain ⟨k4, k5⟩ := o3_out h2 c2
      rcases tri_cases h1 c1 n0 n1 n2 with ⟨g1, g2, g3, gw, go⟩ | ⟨g, go⟩ | ⟨g, go⟩ | ⟨g, go⟩
      · rw [on_no g1, on_no g2, k2, k3, gw, go, k4, k5]; rfl
      · rw [g, go, k5]; simp
      · rw [g, go, k5]; simp
      · exact absurd (cl_diag h2 g) c2
  · obtain ⟨k1, k2, k3⟩ := off_sides h1 c1
    obtain ⟨k4, k5⟩ := o3_out h1 c1
    by_cases c2 : Cl3 a c d p
    · rcases tri_cases h2 c2 n0 n2 n3 with ⟨g1, g2, g3, gw, go⟩ | ⟨g, go⟩ | ⟨g, go⟩ | ⟨g, go⟩
      · rw [k1, k2, on_no g2, on_no g3, k4, gw, go, k5]; rfl
      · exact absurd (cl_diag' h1 g) c1
      · rw [g, go, k5]; simp
      · rw [g, go, k5]; simp
    · obtain ⟨j1, j2, j3⟩ := off_sides h2 c2
      obtain ⟨j4, j5⟩ := o3_out h2 c2
      rw [k1, k2, j2, j3, k4, j4, k5, j5]; rfl

theorem fan5_at {a b c d e p : Pp} (ha : In8 a) (hb : In8 b) (hc : In8 c) (hd : In8 d) (he : In8 e) (h1 : 0 < ar a b c) (h2 : 0 < ar a c d) (h3 : 0 < ar a d e) (hs : Cl3 a b c p → Cl3 a d e p → p = a) (hp : In8 p) (n0 : p ≠ a) (n1 : p ≠ b) (n2 : p ≠ c) (n3 : p ≠ d) (n4 : p ≠ e) :
    phi (insideL [a, b, c, d, e] p) = o3 a b c p + o3 a c d p + o3 a d e p := by
  rw [phi5 ha hb hc hd he hp]
  have ew : ce a b p + ce b c p + ce c d p + ce d e p + ce e a p = w3 a b c p + w3 a c d p + w3 a d e p := by
    have := ce_anti a c p
    have := ce_anti a d p
    unfold w3
    omega
  rw [ew]
  unfold phiOf
  by_cases c1 : Cl3 a b c p
  · have c3 : ¬ Cl3 a d e p := fun k => n0 (hs c1 k)
    obtain ⟨l1, l2, l3⟩ := off_sides h3 c3
    obtain ⟨l4, l5⟩ := o3_out h3 c3
    by_cases c2 : Cl3 a c d p
    · obtain ⟨g1, g2, g3, g4, gw, go1, go2⟩ := diag_both h1 h2 c1 c2 n0 n2
      rw [on_no g1, on_no g2, on_no g3, l2, l3, gw, go1, go2, l4, l5]; rfl
    · obtain ⟨k1, k2, k3⟩ := off_sides h2 c2
      obtain ⟨k4, k5⟩ := o3_out h2 c2
      rcases tri_cases h1 c1 n0 n1 n2 with ⟨g1, g2, g3, gw, go⟩ | ⟨g, go⟩ | ⟨g, go⟩ | ⟨g, go⟩
      · rw [on_no g1, on_no g2, k2, l2, l3, gw, go, k4, k5, l4, l5]; rfl
      · rw [g, go, k5, l5]; simp
      · rw [g, go, k5, l5]; simp
      · exact absurd (cl_diag h2 g) c2
  · obtain ⟨k1, k2, k3⟩ := off_sides h1 c1
    obtain ⟨k4, k5⟩ := o3_out h1 c1
    by_cases c2 : Cl3 a c d p
    · by_cases c3 : Cl3 a d e p
      · obtain ⟨g1, g2, g3, g4, gw, go1, go2⟩ := diag_both h2 h3 c2 c3 n0 n3
        have gw' : w3 a b c p + w3 a c d p + w3 a d e p = 1 := by omega
        rw [k1, k2, on_no g2, on_no g3, on_no g4, gw', go1, go2, k5]; rfl
      · obtain ⟨l1, l2, l3⟩ := off_sides h3 c3
        obtain ⟨l4, l5⟩ := o3_out h3 c3
        rcases tri_cases h2 c2 n0 n2 n3 with ⟨g1, g2, g3, gw, go⟩ | ⟨g, go⟩ | ⟨g, go⟩ | ⟨g, go⟩
        · rw [k1, k2, on_no g2, l2, l3, k4, gw, go, k5, l4, l5]; rfl
        · exact absurd (cl_diag' h1 g) c1
        · rw [g, go, k5, l5]; simp
        · exact absurd (cl_diag h3 g) c3
    · obtain ⟨j1, j2, j3⟩ := off_sides h2 c2
      obtain ⟨j4, j5⟩ := o3_out h2 c2
      by_cases c3 : Cl3 a d e p
      · rcases tri_cases h3 c3 n0 n3 n4 with ⟨g1, g2, g3, gw, go⟩ | ⟨g, go⟩ | ⟨g, go⟩ | ⟨g, go⟩
        · rw [k1, k2, j2, on_no g2, on_no g3, k4, j4, gw, go, k5, j5]; rfl
        · exact absurd (cl_diag' h2 g) c2
        · rw [g, go, k5, j5]; simp
        · rw [g, go, k5, j5]; simp
      · obtain ⟨l1, l2, l3⟩ := off_sides h3 c3
        obtain ⟨l4, l5⟩ := o3_out h3 c3
        rw [k1, k2, j2, l2, l3, k4, j4, l4, k5, j5, l5]; rfl

/-- What a ring counts on the grid: two for each point within, one for each on it. -/
def pk (l : List Pp) : Int := gs fun p => phi (insideL l p)
theorem phi_corner {l : List Pp} (_hl : ∀ v ∈ l, In8 v) {v : Pp} (hv : v ∈ l) : phi (insideL l v) = 1 := by
  obtain ⟨i, hi⟩ := List.mem_iff_getElem?.1 hv
  have hil := (List.getElem?_eq_some_iff.1 hi).1
  refine phi_on hil ?_
  unfold onAt ringQ
  rw [lpt_at hi]
  exact on_left _ _
/-- A ring that triangles lay out. -/
theorem pk_tiles {l : List Pp} {g : Pp → Int} (hn : l.Nodup) (hl : ∀ v ∈ l, In8 v) (h : ∀ p, In8 p → p ∉ l → phi (insideL l p) = g p) : pk l = gs g + sumL (fun v => 1 - g v) l := by
  unfold pk
  rw [gs_off l g hn hl h]
  congr 1
  exact sumL_congr fun v hv => by rw [phi_corner hl hv]
theorem ne_of_ar {a b c : Pp} (h : 0 < ar a b c) : a ≠ b ∧ b ≠ c ∧ a ≠ c := by
  refine ⟨fun e => ?_, fun e => ?_, fun e => ?_⟩
  · subst e
    have : ar a a c = 0 := by rw [← ar_rot, ar_aba]
    omega
  · subst e
    rw [ar_abb] at h
    omega
  · subst e
    rw [ar_aba] at h
    omega
theorem pick3 {a b c : Pp} (ha : In8 a) (hb : In8 b) (hc : In8 c) (h1 : 0 < ar a b c) : pk [a, b, c] = ar a b c + 2 := by
  obtain ⟨e1, e2, e3⟩ := ne_of_ar h1
  rw [pk_tiles (g := o3 a b c) (by simp [e1, e2, e3]) (by simp [ha, hb, hc]) (fun p hp hn => by
    simp only [List.mem_cons, List.not_mem_nil, or_false, not_or] at hn
    exact fan3_at ha hb hc h1 hp hn.1 hn.2.1 hn.2.2), tri_sum ha hb hc]
  have t := tri_ends h1
  show _ + ((1 - o3 a b c a) + ((1 - o3 a b c b) + ((1 - o3 a b c c) + 0))) = _
  omega
theorem pick4 {a b c d : Pp} (ha : In8 a) (hb : In8 b) (hc : In8 c) (hd : In8 d) (h1 : 0 < ar a b c) (h2 : 0 < ar a c d) : pk [a, b, c, d] = ar a b c + ar a c d + 2 := by
  obtain ⟨e1, e2, e3⟩ := ne_of_ar h1
  obtain ⟨e4, e5, e6⟩ := ne_of_ar h2
  have x1 : ¬ Cl3 a c d b := fun k => by have := sep12 h1 h2 (cl_b h1) k; have := ar_rot a b c; have := ar_rot b c a; have := ar_swap a c b; have := ar_rot c b a; omega
  have x2 : ¬ Cl3 a b c d := fun k => by have := sep12 h1 h2 k (cl_c h2); omega
  have e7 : b ≠ d := fun e => x1 (by rw [e]; exact cl_c h2)
  rw [pk_tiles (g := fun p => o3 a b c p + o3 a c d p) (by simp [e1, e2, e3, e5, e6, e7]) (by simp [ha, hb, hc, hd]) (fun p hp hn => by
    simp only [List.mem_cons, List.not_mem_nil, or_false, not_or] at hn
    exact fan4_at ha hb hc hd h1 h2 hp hn.1 hn.2.1 hn.2.2.1 hn.2.2.2), gs_add, tri_sum ha hb hc, tri_sum ha hc hd]
  have t1 := tri_ends h1
  have t2 := tri_ends h2
  have y1 := (o3_out h2 x1).2
  have y2 := (o3_out h1 x2).2
  show _ + ((1 - (o3 a b c a + o3 a c d a)) + ((1 - (o3 a b c b + o3 a c d b)) + ((1 - (o3 a b c c + o3 a c d c)) + ((1 - (o3 a b c d + o3 a c d d)) + 0)))) = _
  omega
theorem pick5 {a b c d e : Pp} (ha : In8 a) (hb : In8 b) (hc : In8 c) (hd : In8 d) (he : In8 e) (h1 : 0 < ar a b c) (h2 : 0 < ar a c d) (h3 : 0 < ar a d e) (hs : ∀ p, Cl3 a b c p → Cl3 a d e p → p = a) : pk [a, b, c, d, e] = ar a b c + ar a c d + ar a d e + 2 := by
  obtain ⟨e1, e2, e3⟩ := ne_of_ar h1
  obtain ⟨e4, e5, e6⟩ := ne_of_ar h2
  obtain ⟨e7, e8, e9⟩ := ne_of_ar h3
  have x1 : ¬ Cl3 a c d b := fun k => by have := sep12 h1 h2 (cl_b h1) k; have := ar_rot a b c; have := ar_rot b c a; have := ar_swap a c b; have := ar_rot c b a; omega
  have x2 : ¬ Cl3 a b c d := fun k => by have := sep12 h1 h2 k (cl_c h2); omega
  have x3 : ¬ Cl3 a d e c := fun k => by have := sep12 h2 h3 (cl_b h2) k; have := ar_rot a c d; have := ar_rot c d a; have := ar_swap a d c; have := ar_rot d c a; omega
  have x4 : ¬ Cl3 a c d e := fun k => by have := sep12 h2 h3 k (cl_c h3); omega
  have x5 : ¬ Cl3 a d e b := fun k => e1 (hs b (cl_b h1) k).symm
  have x6 : ¬ Cl3 a b c e := fun k => e9 (hs e k (cl_c h3)).symm
  have d1 : b ≠ d := fun q => x1 (by rw [q]; exact cl_c h2)
  have d2 : b ≠ e := fun q => x5 (by rw [q]; exact cl_c h3)
  have d3 : c ≠ e := fun q => x3 (by rw [q]; exact cl_c h3)
  rw [pk_tiles (g := fun p => o3 a b c p + o3 a c d p + o3 a d e p) (by simp [e1, e2, e3, e5, e6, e8, e9, d1, d2, d3]) (by simp [ha, hb, hc, hd, he]) (fun p hp hn => by
    simp only [List.mem_cons, List.not_mem_nil, or_false, not_or] at hn
    exact fan5_at ha hb hc hd he h1 h2 h3 (hs p) hp hn.1 hn.2.1 hn.2.2.1 hn.2.2.2.1 hn.2.2.2.2), gs_add, gs_add, tri_sum ha hb hc, tri_sum ha hc hd, tri_sum ha hd he]
  have t1 := tri_ends h1
  have t2 := tri_ends h2
  have t3 := tri_ends h3
  have y1 := (o3_out h2 x1).2
  have y2 := (o3_out h1 x2).2
  have y3 := (o3_out h3 x3).2
  have y4 := (o3_out h2 x4).2
  have y5 := (o3_out h3 x5).2
  have y6 := (o3_out h1 x6).2
  show _ + ((1 - (o3 a b c a + o3 a c d a + o3 a d e a)) + ((1 - (o3 a b c b + o3 a c d b + o3 a d e b)) + ((1 - (o3 a b c c + o3 a c d c + o3 a d e c)) + ((1 - (o3 a b c d + o3 a c d d + o3 a d e d)) + ((1 - (o3 a b c e + o3 a c d e + o3 a d e e)) + 0))))) = _
  omega
end Go.Proofs.Ytepnjknblppfcaa
