/-
  Two segments: Relate by what is shared; on one line.
-/
import Derived.Test.YtepnjknblppfcaaSPlain
import Derived.Test.YtepnjknblppfcaaMF
namespace Go.Proofs.Ytepnjknblppfcaa

/-- Two unlike ends that are on both. -/
def twoB (sa sb sc sd ab ac ad bc bd cd : Bool) : Bool := (sa && sb && !ab) || (sa && sc && !ac) || (sa && sd && !ad) || (sb && sc && !bc) || (sb && sd && !bd) || (sc && sd && !cd)
theorem relB_spec : ∀ sa sb sc sd ab ac ad bc bd cd x : Bool, flagsOk sa sb sc sd ab ac ad bc bd cd = true →
    relB sa sb sc sd ab ac ad bc bd cd x = if twoB sa sb sc sd ab ac ad bc bd cd then 4 else if sa || sb || sc || sd then (if ac || ad || bc || bd then 1 else 2) else if x then 3 else 0 := by decide +kernel
theorem relP_spec (a b c d : Pp) : relP a b c d = if twoB (on2 c d a) (on2 c d b) (on2 a b c) (on2 a b d) (eqp a b) (eqp a c) (eqp a d) (eqp b c) (eqp b d) (eqp c d) then 4 else if on2 c d a || on2 c d b || on2 a b c || on2 a b d then (if eqp a c || eqp a d || eqp b c || eqp b d then 1 else 2) else if crs a b c d then 3 else 0 :=
  relB_spec _ _ _ _ _ _ _ _ _ _ _ (flags_ok a b c d)

def btw2 (s t x : Int) : Bool := decide (min s t ≤ x) && decide (x ≤ max s t)
theorem mul_le_pos {d : Int} (hd : 0 < d) (a b : Int) : a * d ≤ b * d ↔ a ≤ b :=
  ⟨fun h => Classical.byContradiction fun hx => by
    have := Int.mul_lt_mul_of_pos_right (show b < a by omega) hd
    omega, fun h => Int.mul_le_mul_of_nonneg_right h (by omega)⟩
theorem mul_le_neg {d : Int} (hd : d < 0) (a b : Int) : a * d ≤ b * d ↔ b ≤ a := by
  have h := mul_le_pos (d := -d) (by omega) b a
  rw [Int.mul_neg, Int.mul_neg] at h
  omega
theorem btw_mul {d : Int} (hd : d ≠ 0) (s t x : Int) : (min (s * d) (t * d) ≤ x * d ∧ x * d ≤ max (s * d) (t * d)) ↔ (min s t ≤ x ∧ x ≤ max s t) := by
  rcases (show 0 < d ∨ d < 0 by omega) with h | h
  · have h1 := mul_le_pos h s x; have h2 := mul_le_pos h x s; have h3 := mul_le_pos h t x; have h4 := mul_le_pos h x t
    generalize s * d = S at *
    generalize t * d = U at *
    generalize x * d = Z at *
    omega
  · have h1 := mul_le_neg h s x; have h2 := mul_le_neg h x s; have h3 := mul_le_neg h t x; have h4 := mul_le_neg h x t
    generalize s * d = S at *
    generalize t * d = U at *
    generalize x * d = Z at *
    omega
theorem line_area0 (s t x d e : Int) : area (s * d) (s * e) (t * d) (t * e) (x * d) (x * e) = 0 := by
  unfold area
  rw [← Int.sub_mul, ← Int.sub_mul, ← Int.sub_mul, ← Int.sub_mul, show (t - s) * d * ((x - s) * e) = (t - s) * e * ((x - s) * d) by ac_rfl]
  omega
theorem on_line {d e : Int} (hz : ¬ (d = 0 ∧ e = 0)) (s t x : Int) : on2 (s * d, s * e) (t * d, t * e) (x * d, x * e) = btw2 s t x := by
  unfold on2 onP inBox btw2 ovl
  dsimp only
  rw [line_area0]
  have h1 : d = 0 → s * d = 0 ∧ t * d = 0 ∧ x * d = 0 := fun h => by subst h; simp
  have h2 : e = 0 → s * e = 0 ∧ t * e = 0 ∧ x * e = 0 := fun h => by subst h; simp
  have h3 : d ≠ 0 → _ := fun h => btw_mul h s t x
  have h4 : e ≠ 0 → _ := fun h => btw_mul h s t x
  generalize s * d = S at *
  generalize t * d = U at *
  generalize x * d = Z at *
  generalize s * e = S' at *
  generalize t * e = U' at *
  generalize x * e = Z' at *
  rw [Bool.eq_iff_iff]
  simp only [Bool.and_eq_true, decide_eq_true_eq, BEq.rfl, true_and]
  by_cases hd : d = 0
  · have he : e ≠ 0 := fun h => hz ⟨hd, h⟩
    have := h1 hd
    have := h4 he
    omega
  · have := h3 hd
    by_cases he : e = 0
    · have := h2 he
      omega
    · have := h4 he
      omega
theorem eqp_line {d e : Int} (hz : ¬ (d = 0 ∧ e = 0)) (s t : Int) : eqp (s * d, s * e) (t * d, t * e) = decide (s = t) := by
  rw [Bool.eq_iff_iff, eqp_iff, decide_eq_true_eq]
  constructor
  · intro h
    injection h with h1 h2
    by_cases hd : d = 0
    · exact Int.eq_of_mul_eq_mul_right (fun h => hz ⟨hd, h⟩) h2
    · exact Int.eq_of_mul_eq_mul_right hd h1
  · rintro rfl
    rfl
theorem crs_line (s t u v d e : Int) : crs (s * d, s * e) (t * d, t * e) (u * d, u * e) (v * d, v * e) = false := by
  unfold crs tr2
  dsimp only
  rw [line_area0]
  simp [sgn]

theorem btw2_le {s t x : Int} (h : s ≤ t) : btw2 s t x = (decide (s ≤ x) && decide (x ≤ t)) := by
  unfold btw2
  rw [Int.min_eq_left h, Int.max_eq_right h]
def LineSays (lo hi t0 t1 t2 t3 k : Int) : Prop :=
  (hi < lo → k = 0) ∧ (lo < hi → k = 4) ∧ (lo = hi → (lo = t0 ∨ lo = t1) ∧ (lo = t2 ∨ lo = t3) → k = 1) ∧ (lo = hi → ¬ ((lo = t0 ∨ lo = t1) ∧ (lo = t2 ∨ lo = t3)) → k = 2)
set_option maxHeartbeats 2000000 in
theorem relP_line0 {d e : Int} (hz : ¬ (d = 0 ∧ e = 0)) (t0 t1 t2 t3 : Int) (h01 : t0 ≤ t1) (h23 : t2 ≤ t3) :
    LineSays (max t0 t2) (min t1 t3) t0 t1 t2 t3 (relP (t0 * d, t0 * e) (t1 * d, t1 * e) (t2 * d, t2 * e) (t3 * d, t3 * e)) := by
  unfold LineSays
  rw [relP_spec]
  simp only [on_line hz, eqp_line hz, crs_line, btw2_le h01, btw2_le h23]
  refine ⟨fun h => ?_, fun h => ?_, fun h h' => ?_, fun h h' => ?_⟩
  · rw [if_neg, if_neg]
    · rfl
    · simp only [Bool.or_eq_true, Bool.and_eq_true, decide_eq_true_eq]; omega
    · simp only [twoB, Bool.or_eq_true, Bool.and_eq_true, decide_eq_true_eq, Bool.not_eq_true', decide_eq_false_iff_not]; omega
  · rw [if_pos]
    simp only [twoB, Bool.or_eq_true, Bool.and_eq_true, decide_eq_true_eq, Bool.not_eq_true', decide_eq_false_iff_not]
    rcases Int.le_total t0 t2 with g | g <;> rcases Int.le_total t1 t3 with g' | g' <;> omega
  · rw [if_neg, if_pos, if_pos]
    · simp only [Bool.or_eq_true, decide_eq_true_eq]; omega
    · simp only [Bool.or_eq_true, Bool.and_eq_true, decide_eq_true_eq]; omega
    · simp only [twoB, Bool.or_eq_true, Bool.and_eq_true, decide_eq_true_eq, Bool.not_eq_true', decide_eq_false_iff_not]; omega
  · rw [if_neg, if_pos, if_neg]
    · simp only [Bool.or_eq_true, decide_eq_true_eq]; omega
    · simp only [Bool.or_eq_true, Bool.and_eq_true, decide_eq_true_eq]; omega
    · simp only [twoB, Bool.or_eq_true, Bool.and_eq_true, decide_eq_true_eq, Bool.not_eq_true', decide_eq_false_iff_not]; omega
/-- How segments on one line stand, by their places on it. -/
theorem relP_line {d e : Int} (hz : ¬ (d = 0 ∧ e = 0)) (t0 t1 t2 t3 : Int) :
    LineSays (max (min t0 t1) (min t2 t3)) (min (max t0 t1) (max t2 t3)) t0 t1 t2 t3 (relP (t0 * d, t0 * e) (t1 * d, t1 * e) (t2 * d, t2 * e) (t3 * d, t3 * e)) := by
  have hs : ∀ {lo hi a b c f k : Int}, LineSays lo hi b a c f k → LineSays lo hi a b c f k := fun ⟨h1, h2, h3, h4⟩ => ⟨h1, h2, fun e h => h3 e (by omega), fun e h => h4 e (by omega)⟩
  have ht : ∀ {lo hi a b c f k : Int}, LineSays lo hi a b f c k → LineSays lo hi a b c f k := fun ⟨h1, h2, h3, h4⟩ => ⟨h1, h2, fun e h => h3 e (by omega), fun e h => h4 e (by omega)⟩
  have hcd : ∀ a b c d : Pp, relP a b d c = relP a b c d := fun a b c d => by rw [← relP_cd, relP_ab, relP_cd]
  rcases Int.le_total t0 t1 with h | h <;> rcases Int.le_total t2 t3 with g | g
  · rw [Int.min_eq_left h, Int.max_eq_right h, Int.min_eq_left g, Int.max_eq_right g]
    exact relP_line0 hz t0 t1 t2 t3 h g
  · rw [Int.min_eq_left h, Int.max_eq_right h, Int.min_eq_right g, Int.max_eq_left g, ← hcd]
    exact ht (relP_line0 hz t0 t1 t3 t2 h g)
  · rw [Int.min_eq_right h, Int.max_eq_left h, Int.min_eq_left g, Int.max_eq_right g, ← relP_ab]
    exact hs (relP_line0 hz t1 t0 t2 t3 h g)
  · rw [Int.min_eq_right h, Int.max_eq_left h, Int.min_eq_right g, Int.max_eq_left g, ← relP_ab, ← hcd]
    exact hs (ht (relP_line0 hz t1 t0 t3 t2 h g))
end Go.Proofs.Ytepnjknblppfcaa

namespace Go.Proofs.Ytepnjknblppfcaa

/-- Vectors along one that is not nought are along each other. -/
theorem par {x1 x2 y1 y2 z1 z2 : Int} (h1 : x1 * z2 = x2 * z1) (h2 : y1 * z2 = y2 * z1) (hz : ¬ (z1 = 0 ∧ z2 = 0)) : x1 * y2 = x2 * y1 := by
  by_cases h : z1 = 0
  · have h' : z2 ≠ 0 := fun e => hz ⟨h, e⟩
    rw [h, Int.mul_zero] at h1 h2
    have e1 : x1 = 0 := by
      rcases Int.mul_eq_zero.1 h1 with e | e
      · exact e
      · exact absurd e h'
    have e2 : y1 = 0 := by
      rcases Int.mul_eq_zero.1 h2 with e | e
      · exact e
      · exact absurd e h'
    rw [e1, e2, Int.zero_mul, Int.mul_zero]
  · refine Int.eq_of_mul_eq_mul_right h ?_
    calc x1 * y2 * z1 = x1 * (y2 * z1) := by ac_rfl
      _ = x1 * (y1 * z2) := by rw [h2]
      _ = y1 * (x1 * z2) := by ac_rfl
      _ = y1 * (x2 * z1) := by rw [h1]
      _ = x2 * y1 * z1 := by ac_rfl

/-- No turn: as an equation. -/
theorem area_zero {ax ay bx by' cx cy : Int} : area ax ay bx by' cx cy = 0 ↔ (bx - ax) * (cy - ay) = (by' - ay) * (cx - ax) := by
  unfold area
  omega

theorem on_iff (a b p : Pp) : on2 a b p = true ↔ (b.1 - a.1) * (p.2 - a.2) = (b.2 - a.2) * (p.1 - a.1) ∧ (min a.1 b.1 ≤ p.1 ∧ p.1 ≤ max a.1 b.1) ∧ (min a.2 b.2 ≤ p.2 ∧ p.2 ≤ max a.2 b.2) := by
  unfold on2 onP inBox ovl
  simp only [Bool.and_eq_true, beq_iff_eq, area_zero, decide_eq_true_eq]
  omega

/-- Between in the first number, on the line: between in the second one. -/
theorem second_between {D E s t : Int} (h : D * s = E * t) (hD : D ≠ 0) (ht : (0 ≤ t ∧ t ≤ D) ∨ (D ≤ t ∧ t ≤ 0)) : (0 ≤ s ∧ s ≤ E) ∨ (E ≤ s ∧ s ≤ 0) := by
  have key : ∀ {D E s t : Int}, D * s = E * t → 0 < D → 0 ≤ t → t ≤ D → (0 ≤ s ∧ s ≤ E) ∨ (E ≤ s ∧ s ≤ 0) := by
    intro D E s t h hD h0 h1
    rcases Int.le_total 0 E with hE | hE
    · left
      have a1 : 0 * D ≤ s * D := by rw [Int.zero_mul, Int.mul_comm s, h]; exact Int.mul_nonneg hE h0
      have a2 : s * D ≤ E * D := by rw [Int.mul_comm s, h]; exact Int.mul_le_mul_of_nonneg_left h1 hE
      exact ⟨(mul_le_pos hD 0 s).1 a1, (mul_le_pos hD s E).1 a2⟩
    · right
      have a1 : s * D ≤ 0 * D := by rw [Int.zero_mul, Int.mul_comm s, h]; exact Int.mul_nonpos_of_nonpos_of_nonneg hE h0
      have a2 : E * D ≤ s * D := by rw [Int.mul_comm s, h]; exact Int.mul_le_mul_of_nonpos_left hE h1
      exact ⟨(mul_le_pos hD E s).1 a2, (mul_le_pos hD s 0).1 a1⟩
  rcases (show 0 < D ∨ D < 0 by omega) with hp | hn
  · exact key h hp (by omega) (by omega)
  · exact key (D := -D) (E := E) (s := s) (t := -t) (by rw [Int.neg_mul, Int.mul_neg, h]) (by omega) (by omega) (by omega)

/-- r lies on the line through o along z. -/
def Cl (o z r : Pp) : Prop := z.1 * (r.2 - o.2) = z.2 * (r.1 - o.1)
theorem Cl.diff {o z r s : Pp} (hr : Cl o z r) (hs : Cl o z s) : z.1 * (s.2 - r.2) = z.2 * (s.1 - r.1) := by
  unfold Cl at hr hs
  rw [show s.2 - r.2 = (s.2 - o.2) - (r.2 - o.2) by omega, show s.1 - r.1 = (s.1 - o.1) - (r.1 - o.1) by omega, Int.mul_sub z.1 (s.2 - o.2), Int.mul_sub z.2 (s.1 - o.1), hr, hs]
theorem Cl.three {o z a b r : Pp} (hz : ¬ (z.1 = 0 ∧ z.2 = 0)) (ha : Cl o z a) (hb : Cl o z b) (hr : Cl o z r) : (b.1 - a.1) * (r.2 - a.2) = (b.2 - a.2) * (r.1 - a.1) := by
  have h1 := ha.diff hb
  have h2 := ha.diff hr
  refine par (z1 := z.1) (z2 := z.2) ?_ ?_ hz
  · rw [Int.mul_comm, ← h1, Int.mul_comm]
  · rw [Int.mul_comm, ← h2, Int.mul_comm]
theorem Cl.eq {o z r s : Pp} (hz : z.1 ≠ 0) (hr : Cl o z r) (hs : Cl o z s) (h : r.1 = s.1) : r = s := by
  have h1 := hr.diff hs
  rw [h, Int.sub_self, Int.mul_zero] at h1
  have h2 : s.2 - r.2 = 0 := by
    rcases Int.mul_eq_zero.1 h1 with e | e
    · exact absurd e hz
    · exact e
  exact Prod.ext h (by omega)
theorem Cl.eqp {o z r s : Pp} (hz : z.1 ≠ 0) (hr : Cl o z r) (hs : Cl o z s) : eqp r s = decide (r.1 = s.1) := by
  rw [Bool.eq_iff_iff, eqp_iff, decide_eq_true_eq]
  exact ⟨fun h => by rw [h], fun h => hr.eq hz hs h⟩
theorem Cl.on {o z a b r : Pp} (hz : z.1 ≠ 0) (ha : Cl o z a) (hb : Cl o z b) (hr : Cl o z r) : on2 a b r = btw2 a.1 b.1 r.1 := by
  rw [Bool.eq_iff_iff, on_iff]
  unfold btw2
  simp only [Bool.and_eq_true, decide_eq_true_eq]
  refine ⟨fun h => h.2.1, fun h => ⟨ha.three (fun e => hz e.1) hb hr, h, ?_⟩⟩
  by_cases hab : a.1 = b.1
  · have e1 := ha.eq hz hb hab
    have e2 := hr.eq hz ha (by omega)
    rw [← e1, e2]
    omega
  · have := second_between (ha.three (fun e => hz e.1) hb hr) (by omega) (by omega)
    omega

def flags (a b c d : Pp) : Bool := twoB (on2 c d a) (on2 c d b) (on2 a b c) (on2 a b d) (eqp a b) (eqp a c) (eqp a d) (eqp b c) (eqp b d) (eqp c d)
def anyS (a b c d : Pp) : Bool := on2 c d a || on2 c d b || on2 a b c || on2 a b d
def flags1 (a b c d : Int) : Bool := twoB (btw2 c d a) (btw2 c d b) (btw2 a b c) (btw2 a b d) (decide (a = b)) (decide (a = c)) (decide (a = d)) (decide (b = c)) (decide (b = d)) (decide (c = d))
def any1 (a b c d : Int) : Bool := btw2 c d a || btw2 c d b || btw2 a b c || btw2 a b d
theorem relP_flags (a b c d : Pp) : relP a b c d = if flags a b c d then 4 else if anyS a b c d then (if eqp a c || eqp a d || eqp b c || eqp b d then 1 else 2) else if crs a b c d then 3 else 0 := relP_spec a b c d
theorem line_flags (a b c d : Int) : flags (a * 1, a * 0) (b * 1, b * 0) (c * 1, c * 0) (d * 1, d * 0) = flags1 a b c d ∧ anyS (a * 1, a * 0) (b * 1, b * 0) (c * 1, c * 0) (d * 1, d * 0) = any1 a b c d := by
  have hz : ¬ ((1 : Int) = 0 ∧ (0 : Int) = 0) := by omega
  unfold flags anyS flags1 any1
  simp only [on_line hz, eqp_line hz, and_self]
theorem two_1d {a b c d p q : Int} (hpq : p ≠ q) (h1 : btw2 a b p = true) (h2 : btw2 a b q = true) (h3 : btw2 c d p = true) (h4 : btw2 c d q = true) : flags1 a b c d = true := by
  have hz : ¬ ((1 : Int) = 0 ∧ (0 : Int) = 0) := by omega
  unfold btw2 at h1 h2 h3 h4
  simp only [Bool.and_eq_true, decide_eq_true_eq] at h1 h2 h3 h4
  have h := (relP_line hz a b c d).2.1 (by omega)
  rw [relP_flags, (line_flags a b c d).1] at h
  cases hf : flags1 a b c d with
  | true => rfl
  | false =>
    rw [hf, if_neg (by decide)] at h
    split at h
    · split at h <;> omega
    · split at h <;> omega
theorem any_1d {a b c d p : Int} (h1 : btw2 a b p = true) (h3 : btw2 c d p = true) : any1 a b c d = true := by
  unfold any1 btw2 at *
  simp only [Bool.or_eq_true, Bool.and_eq_true, decide_eq_true_eq] at *
  rcases Int.le_total a b with g | g <;> rcases Int.le_total c d with g' | g' <;> omega

/-- On one line: what is common, in the first number or in the second. -/
theorem Cl.flags {o z a b c d : Pp} (hz : z.1 ≠ 0) (ha : Cl o z a) (hb : Cl o z b) (hc : Cl o z c) (hd : Cl o z d) : flags a b c d = flags1 a.1 b.1 c.1 d.1 ∧ anyS a b c d = any1 a.1 b.1 c.1 d.1 := by
  unfold Go.Proofs.Ytepnjknblppfcaa.flags anyS flags1 any1
  rw [hc.on hz hd ha, hc.on hz hd hb, ha.on hz hb hc, ha.on hz hb hd, ha.eqp hz hb, ha.eqp hz hc, ha.eqp hz hd, hb.eqp hz hc, hb.eqp hz hd, hc.eqp hz hd]
  exact ⟨rfl, rfl⟩
def mir (p : Pp) : Pp := (p.2, p.1)
theorem mir_flags (a b c d : Pp) : flags (mir a) (mir b) (mir c) (mir d) = flags a b c d ∧ anyS (mir a) (mir b) (mir c) (mir d) = anyS a b c d := by
  have he : ∀ a b : Pp, eqp (mir a) (mir b) = eqp a b := fun a b => by unfold mir eqp; exact Bool.and_comm _ _
  have ho : ∀ a b p : Pp, on2 (mir a) (mir b) (mir p) = on2 a b p := on_mirror
  unfold flags anyS
  simp only [he, ho, and_self]
theorem Cl.mir {o z r : Pp} (h : Cl o z r) : Cl (mir o) (mir z) (mir r) := by
  unfold Cl Go.Proofs.Ytepnjknblppfcaa.mir at *
  exact h.symm
theorem line_two {o z a b c d p q : Pp} (hz : ¬ (z.1 = 0 ∧ z.2 = 0)) (ha : Cl o z a) (hb : Cl o z b) (hc : Cl o z c) (hd : Cl o z d) (hp : Cl o z p) (hq : Cl o z q) (hpq : p ≠ q)
    (h1 : on2 a b p = true) (h2 : on2 a b q = true) (h3 : on2 c d p = true) (h4 : on2 c d q = true) : flags a b c d = true := by
  have key : ∀ {o z a b c d p q : Pp}, z.1 ≠ 0 → Cl o z a → Cl o z b → Cl o z c → Cl o z d → Cl o z p → Cl o z q → p ≠ q → on2 a b p = true → on2 a b q = true → on2 c d p = true → on2 c d q = true → flags a b c d = true := by
    intro o z a b c d p q hz ha hb hc hd hp hq hpq h1 h2 h3 h4
    rw [ha.on hz hb hp] at h1
    rw [ha.on hz hb hq] at h2
    rw [hc.on hz hd hp] at h3
    rw [hc.on hz hd hq] at h4
    rw [(ha.flags hz hb hc hd).1]
    exact two_1d (fun e => hpq (hp.eq hz hq e)) h1 h2 h3 h4
  by_cases h : z.1 = 0
  · have h' : z.2 ≠ 0 := fun e => hz ⟨h, e⟩
    rw [← (mir_flags a b c d).1]
    refine key (o := mir o) (z := mir z) (p := mir p) (q := mir q) h' ha.mir hb.mir hc.mir hd.mir hp.mir hq.mir (fun e => hpq ?_) (by rw [show on2 (mir a) (mir b) (mir p) = on2 a b p from on_mirror a b p]; exact h1) (by rw [show on2 (mir a) (mir b) (mir q) = on2 a b q from on_mirror a b q]; exact h2) (by rw [show on2 (mir c) (mir d) (mir p) = on2 c d p from on_mirror c d p]; exact h3) (by rw [show on2 (mir c) (mir d) (mir q) = on2 c d q from on_mirror c d q]; exact h4)
    unfold mir at e
    injection e with e1 e2
    exact Prod.ext e2 e1
  · exact key h ha hb hc hd hp hq hpq h1 h2 h3 h4
theorem line_any {o z a b c d p : Pp} (hz : ¬ (z.1 = 0 ∧ z.2 = 0)) (ha : Cl o z a) (hb : Cl o z b) (hc : Cl o z c) (hd : Cl o z d) (hp : Cl o z p) (h1 : on2 a b p = true) (h3 : on2 c d p = true) : anyS a b c d = true := by
  have key : ∀ {o z a b c d p : Pp}, z.1 ≠ 0 → Cl o z a → Cl o z b → Cl o z c → Cl o z d → Cl o z p → on2 a b p = true → on2 c d p = true → anyS a b c d = true := by
    intro o z a b c d p hz ha hb hc hd hp h1 h3
    rw [ha.on hz hb hp] at h1
    rw [hc.on hz hd hp] at h3
    rw [(ha.flags hz hb hc hd).2]
    exact any_1d h1 h3
  by_cases h : z.1 = 0
  · have h' : z.2 ≠ 0 := fun e => hz ⟨h, e⟩
    rw [← (mir_flags a b c d).2]
    exact key (o := mir o) (z := mir z) (p := mir p) h' ha.mir hb.mir hc.mir hd.mir hp.mir (by rw [show on2 (mir a) (mir b) (mir p) = on2 a b p from on_mirror a b p]; exact h1) (by rw [show on2 (mir c) (mir d) (mir p) = on2 c d p from on_mirror c d p]; exact h3)
  · exact key h ha hb hc hd hp h1 h3

/-- A segment's ends are on the line through two unlike points of it. -/
theorem on_eq {a p : Pp} (h : on2 a a p = true) : p = a := by
  have := (on_iff a a p).1 h
  exact Prod.ext (by omega) (by omega)
theorem end_on_line {a b p q : Pp} (hpq : p ≠ q) (h1 : on2 a b p = true) (h2 : on2 a b q = true) : Cl p (q.1 - p.1, q.2 - p.2) a := by
  have hab : ¬ (b.1 - a.1 = 0 ∧ b.2 - a.2 = 0) := fun e => by
    have : b = a := Prod.ext (by omega) (by omega)
    subst this
    exact hpq ((on_eq h1).trans (on_eq h2).symm)
  have e1 := ((on_iff a b p).1 h1).1
  have e2 := ((on_iff a b q).1 h2).1
  have e3 : (b.1 - a.1) * (q.2 - p.2) = (b.2 - a.2) * (q.1 - p.1) := by
    rw [show q.2 - p.2 = (q.2 - a.2) - (p.2 - a.2) by omega, show q.1 - p.1 = (q.1 - a.1) - (p.1 - a.1) by omega, Int.mul_sub (b.1 - a.1) (q.2 - a.2), Int.mul_sub (b.2 - a.2) (q.1 - a.1), e1, e2]
  unfold Cl
  dsimp only
  have := par (x1 := q.1 - p.1) (x2 := q.2 - p.2) (y1 := p.1 - a.1) (y2 := p.2 - a.2) (z1 := b.1 - a.1) (z2 := b.2 - a.2) (by rw [Int.mul_comm, ← e3, Int.mul_comm]) (by rw [Int.mul_comm, ← e1, Int.mul_comm]) hab
  rw [show a.2 - p.2 = -(p.2 - a.2) by omega, show a.1 - p.1 = -(p.1 - a.1) by omega, Int.mul_neg, Int.mul_neg, this]
/-- Two unlike points on both: two unlike ends on both. -/
theorem common_two {a b c d p q : Pp} (hpq : p ≠ q) (h1 : on2 a b p = true) (h2 : on2 a b q = true) (h3 : on2 c d p = true) (h4 : on2 c d q = true) : flags a b c d = true := by
  have hz : ¬ (q.1 - p.1 = 0 ∧ q.2 - p.2 = 0) := fun e => hpq (Prod.ext (by omega) (by omega))
  refine line_two (o := p) (z := (q.1 - p.1, q.2 - p.2)) hz (end_on_line hpq h1 h2) (end_on_line hpq (by rw [on_ab]; exact h1) (by rw [on_ab]; exact h2)) (end_on_line hpq h3 h4) (end_on_line hpq (by rw [on_ab]; exact h3) (by rw [on_ab]; exact h4)) ?_ ?_ hpq h1 h2 h3 h4
  · unfold Cl; simp
  · unfold Cl; dsimp only; exact Int.mul_comm _ _

theorem opp_sign {D t Ac Ad : Int} (h : (D - t) * Ac + t * Ad = 0) (ht : (0 < t ∧ t < D) ∨ (D < t ∧ t < 0)) (hc : Ac ≠ 0) (_hd : Ad ≠ 0) : sgn Ac * sgn Ad < 0 := by
  have key : ∀ {D t Ac Ad : Int}, (D - t) * Ac + t * Ad = 0 → 0 < t → t < D → Ac ≠ 0 → sgn Ac * sgn Ad < 0 := by
    intro D t Ac Ad h h0 h1 hc
    rcases (show 0 < Ac ∨ Ac < 0 by omega) with g | g
    · have p1 := Int.mul_pos (show 0 < D - t by omega) g
      have p2 : Ad < 0 := Classical.byContradiction fun hx => by
        have := Int.mul_nonneg (show 0 ≤ t by omega) (show 0 ≤ Ad by omega)
        omega
      unfold sgn
      rw [if_neg (by omega), if_pos g, if_pos p2]
      decide
    · have p1 := Int.mul_neg_of_pos_of_neg (show 0 < D - t by omega) g
      have p2 : 0 < Ad := Classical.byContradiction fun hx => by
        have := Int.mul_nonpos_of_nonneg_of_nonpos (show 0 ≤ t by omega) (show Ad ≤ 0 by omega)
        omega
      unfold sgn
      rw [if_pos g, if_neg (by omega), if_pos p2]
      decide
  rcases ht with ⟨h0, h1⟩ | ⟨h0, h1⟩
  · exact key h h0 h1 hc
  · refine key (D := -D) (t := -t) ?_ (by omega) (by omega) hc
    rw [show -D - -t = -(D - t) by omega, Int.neg_mul, Int.neg_mul]
    omega
theorem affine {u1 u2 a1 a2 c1 c2 d1 d2 p1 p2 : Int} (h : (d1 - c1) * (p2 - c2) = (d2 - c2) * (p1 - c1)) :
    (d1 - c1) * (u1 * (p2 - a2) - u2 * (p1 - a1)) = (d1 - c1 - (p1 - c1)) * (u1 * (c2 - a2) - u2 * (c1 - a1)) + (p1 - c1) * (u1 * (d2 - a2) - u2 * (d1 - a1)) := by
  grind
theorem affine2 {u1 u2 a1 a2 c1 c2 d1 d2 p1 p2 : Int} (h : (d1 - c1) * (p2 - c2) = (d2 - c2) * (p1 - c1)) :
    (d2 - c2) * (u1 * (p2 - a2) - u2 * (p1 - a1)) = (d2 - c2 - (p2 - c2)) * (u1 * (c2 - a2) - u2 * (c1 - a1)) + (p2 - c2) * (u1 * (d2 - a2) - u2 * (d1 - a1)) := by
  grind

/-- An end of the other one that is on the line, and a common point that is no end: all on one line. -/
theorem end_off {a b c d p : Pp} (h1 : on2 a b p = true) (h3 : on2 c d p = true) (hpc : p ≠ c) (hab : a ≠ b) (hn : anyS a b c d = false) : area a.1 a.2 b.1 b.2 c.1 c.2 ≠ 0 := by
  intro h0
  have hz : ¬ ((b.1 - a.1, b.2 - a.2) : Pp).1 = 0 ∨ ¬ ((b.1 - a.1, b.2 - a.2) : Pp).2 = 0 := by
    by_cases e : b.1 - a.1 = 0
    · right
      intro e2
      exact hab (Prod.ext (by omega) (by dsimp only at e2; omega))
    · exact .inl e
  have hz' : ¬ (((b.1 - a.1, b.2 - a.2) : Pp).1 = 0 ∧ ((b.1 - a.1, b.2 - a.2) : Pp).2 = 0) := by
    rcases hz with e | e
    · exact fun x => e x.1
    · exact fun x => e x.2
  have ca : Cl a (b.1 - a.1, b.2 - a.2) a := by unfold Cl; simp
  have cb : Cl a (b.1 - a.1, b.2 - a.2) b := by unfold Cl; dsimp only; exact Int.mul_comm _ _
  have cp : Cl a (b.1 - a.1, b.2 - a.2) p := ((on_iff a b p).1 h1).1
  have cc : Cl a (b.1 - a.1, b.2 - a.2) c := area_zero.1 h0
  have cd : Cl a (b.1 - a.1, b.2 - a.2) d := by
    have e1 := cc.diff cp
    have e2 := ((on_iff c d p).1 h3).1
    have hp : ¬ (p.1 - c.1 = 0 ∧ p.2 - c.2 = 0) := fun e => hpc (Prod.ext (by omega) (by omega))
    have e3 := par (x1 := b.1 - a.1) (x2 := b.2 - a.2) (y1 := d.1 - c.1) (y2 := d.2 - c.2) e1 e2 hp
    unfold Cl at cc ⊢
    dsimp only at cc ⊢
    rw [show d.2 - a.2 = (d.2 - c.2) + (c.2 - a.2) by omega, show d.1 - a.1 = (d.1 - c.1) + (c.1 - a.1) by omega, Int.mul_add, Int.mul_add, e3, cc]
  have := line_any hz' ca cb cc cd cp h1 h3
  rw [hn] at this
  cases this
theorem cross_side {a b c d p : Pp} (h1 : on2 a b p = true) (h3 : on2 c d p = true) (hpc : p ≠ c) (hpd : p ≠ d) (hc : area a.1 a.2 b.1 b.2 c.1 c.2 ≠ 0) (hd : area a.1 a.2 b.1 b.2 d.1 d.2 ≠ 0) : tr2 a b c * tr2 a b d < 0 := by
  have e := ((on_iff c d p).1 h3)
  have e1 := ((on_iff a b p).1 h1).1
  have h0 : (b.1 - a.1) * (p.2 - a.2) - (b.2 - a.2) * (p.1 - a.1) = 0 := by rw [e1]; omega
  unfold tr2
  by_cases hD : d.1 - c.1 = 0
  · have hD2 : d.2 - c.2 ≠ 0 := fun e2 => by
      refine hpc ?_
      exact Prod.ext (by omega) (by omega)
    have k := affine2 (u1 := b.1 - a.1) (u2 := b.2 - a.2) (a1 := a.1) (a2 := a.2) e.1
    rw [h0, Int.mul_zero] at k
    refine opp_sign (D := d.2 - c.2) (t := p.2 - c.2) k.symm ?_ hc hd
    have n1 : p.2 ≠ c.2 := fun x => hpc (Prod.ext (by omega) x)
    have n2 : p.2 ≠ d.2 := fun x => hpd (Prod.ext (by omega) x)
    omega
  · have k := affine (u1 := b.1 - a.1) (u2 := b.2 - a.2) (a1 := a.1) (a2 := a.2) e.1
    rw [h0, Int.mul_zero] at k
    refine opp_sign (D := d.1 - c.1) (t := p.1 - c.1) k.symm ?_ hc hd
    have n1 : p.1 ≠ c.1 := fun x => by
      have h5 := e.1
      rw [x, Int.sub_self, Int.mul_zero] at h5
      rcases Int.mul_eq_zero.1 h5 with y | y
      · exact hD y
      · exact hpc (Prod.ext x (by omega))
    have n2 : p.1 ≠ d.1 := fun x => by
      have h5 := e.1
      rw [x, Int.mul_comm (d.2 - c.2)] at h5
      have := Int.eq_of_mul_eq_mul_left hD h5
      exact hpd (Prod.ext x (by omega))
    omega
/-- A common point, and no end of one on the other: they cross. -/
theorem common_cross {a b c d p : Pp} (h1 : on2 a b p = true) (h3 : on2 c d p = true) (hn : anyS a b c d = false) : crs a b c d = true := by
  have hn' := hn
  unfold anyS at hn'
  simp only [Bool.or_eq_false_iff] at hn'
  obtain ⟨⟨⟨s1, s2⟩, s3⟩, s4⟩ := hn'
  have n1 : p ≠ a := fun e => by rw [e, s1] at h3; cases h3
  have n2 : p ≠ b := fun e => by rw [e, s2] at h3; cases h3
  have n3 : p ≠ c := fun e => by rw [e, s3] at h1; cases h1
  have n4 : p ≠ d := fun e => by rw [e, s4] at h1; cases h1
  have hab : a ≠ b := fun e => n1 (on_eq (by rw [← e] at h1; exact h1))
  have hcd : c ≠ d := fun e => n3 (on_eq (by rw [← e] at h3; exact h3))
  have hn2 : anyS c d a b = false := by
    unfold anyS
    rw [s1, s2, s3, s4]
    rfl
  have hna : anyS a b d c = false := by
    unfold anyS
    rw [on_ab c d a, on_ab c d b, s1, s2, s3, s4]
    rfl
  have hnb : anyS c d b a = false := by
    unfold anyS
    rw [on_ab a b c, on_ab a b d, s1, s2, s3, s4]
    rfl
  have h3' : on2 d c p = true := by rw [on_ab]; exact h3
  have h1' : on2 b a p = true := by rw [on_ab]; exact h1
  have k1 := end_off h1 h3 n3 hab hn
  have k2 := end_off h1 h3' n4 hab hna
  have k3 := end_off h3 h1 n1 hcd hn2
  have k4 := end_off h3 h1' n2 hcd hnb
  have e1 : eqp a b = false := by
    cases h : eqp a b with
    | false => rfl
    | true => exact absurd (eqp_iff.1 h) hab
  have e2 : eqp c d = false := by
    cases h : eqp c d with
    | false => rfl
    | true => exact absurd (eqp_iff.1 h) hcd
  unfold crs
  rw [e1, e2, decide_eq_true (cross_side h1 h3 n3 n4 k1 k2), decide_eq_true (cross_side h3 h1 n1 n2 k3 k4)]
  rfl
end Go.Proofs.Ytepnjknblppfcaa

namespace Go.Proofs.Ytepnjknblppfcaa

/-- On a line one number tells points apart, and which are between. -/
theorem on_coord {o z : Pp} (hz : ¬ (z.1 = 0 ∧ z.2 = 0)) : ∃ f : Pp → Int, (∀ r s t, Cl o z r → Cl o z s → Cl o z t → on2 r s t = btw2 (f r) (f s) (f t)) ∧ (∀ r s, Cl o z r → Cl o z s → f r = f s → r = s) := by
  by_cases h : z.1 = 0
  · have h2 : z.2 ≠ 0 := fun e => hz ⟨h, e⟩
    refine ⟨Prod.snd, fun r s t hr hs ht => ?_, fun r s hr hs e => ?_⟩
    · rw [← on_mirror]
      exact Cl.on (o := mir o) (z := mir z) h2 hr.mir hs.mir ht.mir
    · have := Cl.eq (o := mir o) (z := mir z) h2 hr.mir hs.mir e
      unfold mir at this
      injection this with e1 e2
      exact Prod.ext e2 e1
  · exact ⟨Prod.fst, fun r s t hr hs ht => Cl.on h hr hs ht, fun r s hr hs e => hr.eq h hs e⟩
theorem cl_first (a c : Pp) : Cl a (c.1 - a.1, c.2 - a.2) a := by unfold Cl; dsimp only; rw [Int.sub_self, Int.sub_self, Int.mul_zero, Int.mul_zero]
theorem cl_last (a c : Pp) : Cl a (c.1 - a.1, c.2 - a.2) c := by unfold Cl; dsimp only; exact Int.mul_comm _ _
theorem cl_ar {a c v : Pp} (h : ar a c v = 0) : Cl a (c.1 - a.1, c.2 - a.2) v := by unfold ar area at h; unfold Cl; dsimp only; omega
theorem dir_ne {a c : Pp} (h : a ≠ c) : ¬ ((c.1 - a.1, c.2 - a.2) : Pp).1 = 0 ∨ ¬ ((c.1 - a.1, c.2 - a.2) : Pp).2 = 0 := by
  by_cases h1 : c.1 - a.1 = 0
  · right
    intro h2
    dsimp only at h2
    exact h (Prod.ext (by omega) (by omega))
  · exact .inl h1
theorem ar_flip (a b c : Pp) : ar a c b = -ar a b c := by unfold ar area; grind
/-- Of three points on a line one is between the others. -/
theorem mid_on {a b c : Pp} (h0 : ar a b c = 0) (h1 : on2 b c a = false) (h2 : on2 a b c = false) : on2 a c b = true := by
  have hac : a ≠ c := fun e => by
    subst e
    rw [on_right] at h1
    cases h1
  obtain ⟨f, hf, _⟩ := on_coord (o := a) (z := (c.1 - a.1, c.2 - a.2)) (fun e => (dir_ne hac).elim (fun k => k e.1) (fun k => k e.2))
  have ca := cl_first a c
  have cc := cl_last a c
  have cb := cl_ar (a := a) (c := c) (v := b) (by rw [ar_flip, h0]; rfl)
  rw [hf _ _ _ cb cc ca] at h1
  rw [hf _ _ _ ca cb cc] at h2
  rw [hf _ _ _ ca cc cb]
  generalize f a = x at *
  generalize f b = y at *
  generalize f c = z at *
  unfold btw2 at *
  simp only [Bool.and_eq_true, Bool.and_eq_false_iff, decide_eq_true_eq, decide_eq_false_iff_not] at *
  omega
/-- A side with a point on it is its two parts. -/
theorem on_parts {a b c v : Pp} (hac : a ≠ c) (hb : on2 a c b = true) : on2 a c v = (on2 a b v || on2 b c v) := by
  obtain ⟨f, hf, hi⟩ := on_coord (o := a) (z := (c.1 - a.1, c.2 - a.2)) (fun e => (dir_ne hac).elim (fun k => k e.1) (fun k => k e.2))
  have ca := cl_first a c
  have cc := cl_last a c
  have cb := cl_ar (ar_on hb)
  have hb' := hb
  rw [hf _ _ _ ca cc cb] at hb'
  have key : Cl a (c.1 - a.1, c.2 - a.2) v → on2 a c v = (on2 a b v || on2 b c v) := fun cv => by
    rw [hf _ _ _ ca cc cv, hf _ _ _ ca cb cv, hf _ _ _ cb cc cv]
    generalize f a = x at *
    generalize f b = y at *
    generalize f c = z at *
    generalize f v = t at *
    rw [Bool.eq_iff_iff]
    unfold btw2 at *
    simp only [Bool.and_eq_true, Bool.or_eq_true, decide_eq_true_eq] at *
    omega
  by_cases h : ar a c v = 0
  · exact key (cl_ar h)
  · have n1 : on2 a c v = false := by
      cases e : on2 a c v with
      | false => rfl
      | true => exact absurd (ar_on e) h
    have n2 : on2 a b v = false := by
      cases e : on2 a b v with
      | false => rfl
      | true =>
        refine absurd ?_ h
        by_cases hab : a = b
        · subst hab
          have := on_eq e
          subst this
          rw [ar_aba]
        · have q := ar_on e
          have r := ar_on hb
          have e1 : (b.1 - a.1) * ar a c v = 0 := by unfold ar area at *; grind
          have e2 : (b.2 - a.2) * ar a c v = 0 := by unfold ar area at *; grind
          rcases dir_ne hab with k | k
          · exact (Int.mul_eq_zero.1 e1).resolve_left k
          · exact (Int.mul_eq_zero.1 e2).resolve_left k
    have n3 : on2 b c v = false := by
      cases e : on2 b c v with
      | false => rfl
      | true =>
        refine absurd ?_ h
        by_cases hbc : b = c
        · subst hbc
          have := on_eq e
          subst this
          rw [ar_abb]
        · have q := ar_on e
          have r := ar_on hb
          have e1 : (c.1 - b.1) * ar a c v = 0 := by unfold ar area at *; grind
          have e2 : (c.2 - b.2) * ar a c v = 0 := by unfold ar area at *; grind
          rcases dir_ne hbc with k | k
          · exact (Int.mul_eq_zero.1 e1).resolve_left k
          · exact (Int.mul_eq_zero.1 e2).resolve_left k
    rw [n1, n2, n3]
    rfl
/-- Along a side the areas have one sign. -/
theorem sgn_scale {d s A t : Int} (e : d * t = s * A) (h : (0 < d ∧ 0 < s) ∨ (d < 0 ∧ s < 0)) : sgn t = sgn A := by
  have h1 := congrArg sgn e
  rw [pk_sgn_mul, pk_sgn_mul] at h1
  rcases h with ⟨hd, hs⟩ | ⟨hd, hs⟩
  · rw [show sgn d = 1 by unfold sgn; rw [if_neg (by omega), if_pos hd], show sgn s = 1 by unfold sgn; rw [if_neg (by omega), if_pos hs]] at h1
    omega
  · rw [show sgn d = -1 by unfold sgn; rw [if_pos hd], show sgn s = -1 by unfold sgn; rw [if_pos hs]] at h1
    omega
theorem part_signs {a b c : Pp} (hb : on2 a c b = true) (hab : a ≠ b) (hbc : b ≠ c) (v : Pp) : sgn (ar a b v) = sgn (ar a c v) ∧ sgn (ar b c v) = sgn (ar a c v) := by
  have h0 := ar_on hb
  obtain ⟨q, ⟨q1, q2⟩, q3, q4⟩ := (on_eqs a c b).1 hb
  have e1 := ar_x1 (a := a) (b := c) (c := v) (p := b) h0
  have e2 := ar_x2 (a := a) (b := c) (c := v) (p := b) h0
  have e3 := ar_x3 (a := a) (b := c) (c := v) (p := b) h0
  have e4 := ar_x4 (a := a) (b := c) (c := v) (p := b) h0
  rw [show ar v a b = ar a b v from (ar_rot v a b).symm] at e1 e2
  rw [show ar c v b = ar b c v from ar_rot b c v] at e3 e4
  by_cases hx : c.1 - a.1 = 0
  · have hab2 : b.2 - a.2 ≠ 0 := fun e => hab (Prod.ext (by omega) (by omega))
    have hbc2 : c.2 - b.2 ≠ 0 := fun e => hbc (Prod.ext (by omega) (by omega))
    exact ⟨sgn_scale e2 (by omega), sgn_scale e4 (by omega)⟩
  · have hab1 : b.1 - a.1 ≠ 0 := fun e => by
      rw [e, Int.mul_zero] at q
      have := (Int.mul_eq_zero.1 q).resolve_left hx
      exact hab (Prod.ext (by omega) (by omega))
    have hbc1 : c.1 - b.1 ≠ 0 := fun e => by
      have q' : (c.1 - a.1) * (c.2 - b.2) = 0 := by
        rw [show b.1 - a.1 = c.1 - a.1 by omega] at q
        have : (c.1 - a.1) * ((c.2 - a.2) - (b.2 - a.2)) = 0 := by rw [Int.mul_sub, q, Int.mul_comm]; omega
        rwa [show c.2 - a.2 - (b.2 - a.2) = c.2 - b.2 by omega] at this
      have := (Int.mul_eq_zero.1 q').resolve_left hx
      exact hbc (Prod.ext (by omega) (by omega))
    exact ⟨sgn_scale e1 (by omega), sgn_scale e3 (by omega)⟩
/-- A straight side in two parts meets rays as a whole. -/
theorem ce_parts {a b c : Pp} (hb : on2 a c b = true) (hab : a ≠ b) (hbc : b ≠ c) (p : Pp) : ce a b p + ce b c p = ce a c p := by
  obtain ⟨s1, s2⟩ := part_signs hb hab hbc p
  obtain ⟨_, _, q3, q4⟩ := (on_eqs a c b).1 hb
  unfold ce
  rw [← cw_sgn (a.2 - p.2) (b.2 - p.2), ← cw_sgn (b.2 - p.2) (c.2 - p.2), ← cw_sgn (a.2 - p.2) (c.2 - p.2), s1, s2, cw_sgn, cw_sgn, cw_sgn]
  unfold cw
  generalize ar a c p = t at *
  rcases Int.lt_trichotomy t 0 with g | g | g <;> by_cases k1 : p.2 < a.2 <;> by_cases k2 : p.2 < b.2 <;> by_cases k3 : p.2 < c.2 <;> first
    | (exfalso; omega)
    | (repeat (first | rw [if_pos (by omega)] | rw [if_neg (by omega)]))
  all_goals rfl
theorem drop4 {a b c d : Pp} (ha : In8 a) (hb8 : In8 b) (hc : In8 c) (hd : In8 d) (hac : a ≠ c) (hb : on2 a c b = true) (hab : a ≠ b) (hbc : b ≠ c) : pk [a, b, c, d] = pk [a, c, d] := gs_congr fun p hp => by
  rw [phi4 ha hb8 hc hd hp, phi3 ha hc hd hp, ce_parts hb hab hbc, ← on_parts hac hb]
theorem drop5 {a b c d e : Pp} (ha : In8 a) (hb8 : In8 b) (hc : In8 c) (hd : In8 d) (he : In8 e) (hac : a ≠ c) (hb : on2 a c b = true) (hab : a ≠ b) (hbc : b ≠ c) : pk [a, b, c, d, e] = pk [a, c, d, e] := gs_congr fun p hp => by
  rw [phi5 ha hb8 hc hd he hp, phi4 ha hc hd he hp, ce_parts hb hab hbc, ← on_parts hac hb]

/-- Two sides across each other. -/
def Xs (a b c d : Pp) : Prop := sgn (ar a b c) * sgn (ar a b d) < 0 ∧ sgn (ar c d a) * sgn (ar c d b) < 0
theorem cross_parts {a b c d e : Pp} (hb : on2 a c b = true) (hab : a ≠ b) (hbc : b ≠ c) (hx : Xs a c d e) : Xs a b d e ∨ Xs b c d e ∨ on2 d e b = true := by
  obtain ⟨x1, x2⟩ := hx
  obtain ⟨s1, s2⟩ := part_signs hb hab hbc d
  obtain ⟨s3, s4⟩ := part_signs hb hab hbc e
  by_cases h : ar d e b = 0
  · refine .inr (.inr ?_)
    have h0 := ar_on hb
    have e1 : (e.1 - d.1) * ar a c d = (d.1 - b.1) * (ar a c e - ar a c d) := by unfold ar area at *; grind
    have e2 : (e.2 - d.2) * ar a c d = (d.2 - b.2) * (ar a c e - ar a c d) := by unfold ar area at *; grind
    rw [← pk_sgn_mul, pk_lt] at x1
    have x1' : (ar a c d < 0 ∧ 0 < ar a c e) ∨ (0 < ar a c d ∧ ar a c e < 0) := by
      rcases Int.lt_trichotomy (ar a c d) 0 with g | g | g
      · rcases Int.lt_or_le 0 (ar a c e) with k | k
        · exact .inl ⟨g, k⟩
        · have := Int.mul_nonneg_of_nonpos_of_nonpos (Int.le_of_lt g) k
          omega
      · rw [g, Int.zero_mul] at x1
        omega
      · rcases Int.lt_or_le (ar a c e) 0 with k | k
        · exact .inr ⟨g, k⟩
        · have := Int.mul_nonneg (Int.le_of_lt g) k
          omega
    have key : ∀ {x y : Int}, x * ar a c d = y * (ar a c e - ar a c d) → (0 ≤ -y ∧ -y ≤ x) ∨ (x ≤ -y ∧ -y ≤ 0) := fun {x y} q => by
      have q' : (x + y) * ar a c d = y * ar a c e := by rw [Int.add_mul, q, Int.mul_sub]; omega
      rcases x1' with ⟨g, k⟩ | ⟨g, k⟩
      · rcases Int.lt_trichotomy y 0 with z | z | z
        · have m1 := Int.mul_neg_of_neg_of_pos z k
          rcases Int.lt_or_le 0 (x + y) with j | j
          · omega
          · have := Int.mul_nonneg_of_nonpos_of_nonpos j (Int.le_of_lt g)
            omega
        · subst z
          rw [Int.zero_mul, Int.add_zero] at q'
          have := (Int.mul_eq_zero.1 q').resolve_right (by omega)
          omega
        · have m1 := Int.mul_pos z k
          rcases Int.lt_or_le (x + y) 0 with j | j
          · omega
          · have := Int.mul_nonpos_of_nonneg_of_nonpos j (Int.le_of_lt g)
            omega
      · rcases Int.lt_trichotomy y 0 with z | z | z
        · have m1 := Int.mul_pos_of_neg_of_neg z k
          rcases Int.lt_or_le 0 (x + y) with j | j
          · omega
          · have := Int.mul_nonpos_of_nonpos_of_nonneg j (Int.le_of_lt g)
            omega
        · subst z
          rw [Int.zero_mul, Int.add_zero] at q'
          have := (Int.mul_eq_zero.1 q').resolve_right (by omega)
          omega
        · have m1 := Int.mul_neg_of_pos_of_neg z k
          rcases Int.lt_or_le (x + y) 0 with j | j
          · omega
          · have := Int.mul_nonneg j (Int.le_of_lt g)
            omega
    have k1 := key e1
    have k2 := key e2
    rw [on_eqs]
    refine ⟨by unfold ar area at h; omega, by omega, by omega⟩
  · have hm := pk_mem (ar d e b)
    have hz := @pk_zero (ar d e b)
    have ma := pk_mem (ar d e a)
    have mc := pk_mem (ar d e c)
    unfold Xs
    rw [s1, s2, s3, s4]
    simp only [List.mem_cons, List.not_mem_nil, or_false] at hm ma mc
    generalize sgn (ar d e b) = y at *
    generalize sgn (ar d e a) = x at *
    generalize sgn (ar d e c) = z at *
    have hy : y ≠ 0 := fun k => h (hz.1 k)
    rcases ma with rfl | rfl | rfl <;> rcases mc with rfl | rfl | rfl <;> rcases hm with rfl | rfl | rfl <;> first
      | (exfalso; omega)
      | exact .inl ⟨x1, by omega⟩
      | exact .inr (.inl ⟨x1, by omega⟩)
end Go.Proofs.Ytepnjknblppfcaa

namespace Go.Proofs.Ytepnjknblppfcaa

theorem phiOf_neg (o : Bool) {w v : Int} (h : v = -w) : phiOf o v = phiOf o w := by
  unfold phiOf
  rw [show v % 2 = w % 2 by omega]
theorem phiOf_eq {o o' : Bool} {w w' : Int} (h1 : o = o') (h2 : w = w') : phiOf o w = phiOf o' w' := by rw [h1, h2]
theorem pk3_rev {a b c : Pp} (ha : In8 a) (hb : In8 b) (hc : In8 c) : pk [a, c, b] = pk [a, b, c] := gs_congr fun p hp => by
  rw [phi3 ha hc hb hp, phi3 ha hb hc hp]
  refine (phiOf_neg _ (w := ce a b p + ce b c p + ce c a p) ?_).trans (phiOf_eq ?_ rfl)
  · have := ce_anti a b p; have := ce_anti b c p; have := ce_anti c a p
    omega
  · rw [on_ab c a, on_ab b c, on_ab a b]
    cases on2 a b p <;> cases on2 b c p <;> cases on2 c a p <;> rfl
theorem pk4_rot {a b c d : Pp} (ha : In8 a) (hb : In8 b) (hc : In8 c) (hd : In8 d) : pk [b, c, d, a] = pk [a, b, c, d] := gs_congr fun p hp => by
  rw [phi4 hb hc hd ha hp, phi4 ha hb hc hd hp]
  refine phiOf_eq ?_ (by omega)
  cases on2 a b p <;> cases on2 b c p <;> cases on2 c d p <;> cases on2 d a p <;> rfl
theorem pk4_rev {a b c d : Pp} (ha : In8 a) (hb : In8 b) (hc : In8 c) (hd : In8 d) : pk [a, d, c, b] = pk [a, b, c, d] := gs_congr fun p hp => by
  rw [phi4 ha hd hc hb hp, phi4 ha hb hc hd hp]
  refine (phiOf_neg _ (w := ce a b p + ce b c p + ce c d p + ce d a p) ?_).trans (phiOf_eq ?_ rfl)
  · have := ce_anti a b p; have := ce_anti b c p; have := ce_anti c d p; have := ce_anti d a p
    omega
  · rw [on_ab d a, on_ab c d, on_ab b c, on_ab a b]
    cases on2 a b p <;> cases on2 b c p <;> cases on2 c d p <;> cases on2 d a p <;> rfl
theorem pk5_rot {a b c d e : Pp} (ha : In8 a) (hb : In8 b) (hc : In8 c) (hd : In8 d) (he : In8 e) : pk [b, c, d, e, a] = pk [a, b, c, d, e] := gs_congr fun p hp => by
  rw [phi5 hb hc hd he ha hp, phi5 ha hb hc hd he hp]
  refine phiOf_eq ?_ (by omega)
  cases on2 a b p <;> cases on2 b c p <;> cases on2 c d p <;> cases on2 d e p <;> cases on2 e a p <;> rfl
theorem pk5_rev {a b c d e : Pp} (ha : In8 a) (hb : In8 b) (hc : In8 c) (hd : In8 d) (he : In8 e) : pk [a, e, d, c, b] = pk [a, b, c, d, e] := gs_congr fun p hp => by
  rw [phi5 ha he hd hc hb hp, phi5 ha hb hc hd he hp]
  refine (phiOf_neg _ (w := ce a b p + ce b c p + ce c d p + ce d e p + ce e a p) ?_).trans (phiOf_eq ?_ rfl)
  · have := ce_anti a b p; have := ce_anti b c p; have := ce_anti c d p; have := ce_anti d e p; have := ce_anti e a p
    omega
  · rw [on_ab e a, on_ab d e, on_ab c d, on_ab b c, on_ab a b]
    cases on2 a b p <;> cases on2 b c p <;> cases on2 c d p <;> cases on2 d e p <;> cases on2 e a p <;> rfl

theorem Xs.comm {a b c d : Pp} (h : Xs a b c d) : Xs c d a b := ⟨h.2, h.1⟩
/-- No corner is on another side, no sides are across each other. -/
structure S4 (a b c d : Pp) : Prop where
  ab_c : on2 a b c = false
  ab_d : on2 a b d = false
  bc_d : on2 b c d = false
  bc_a : on2 b c a = false
  cd_a : on2 c d a = false
  cd_b : on2 c d b = false
  da_b : on2 d a b = false
  da_c : on2 d a c = false
  x1 : ¬ Xs a b c d
  x2 : ¬ Xs b c d a
theorem S4.rot {a b c d : Pp} (h : S4 a b c d) : S4 b c d a := ⟨h.bc_d, h.bc_a, h.cd_a, h.cd_b, h.da_b, h.da_c, h.ab_c, h.ab_d, h.x2, fun k => h.x1 k.comm⟩
structure S5 (a b c d e : Pp) : Prop where
  ab_c : on2 a b c = false
  ab_d : on2 a b d = false
  ab_e : on2 a b e = false
  bc_d : on2 b c d = false
  bc_e : on2 b c e = false
  bc_a : on2 b c a = false
  cd_e : on2 c d e = false
  cd_a : on2 c d a = false
  cd_b : on2 c d b = false
  de_a : on2 d e a = false
  de_b : on2 d e b = false
  de_c : on2 d e c = false
  ea_b : on2 e a b = false
  ea_c : on2 e a c = false
  ea_d : on2 e a d = false
  x1 : ¬ Xs a b c d
  x2 : ¬ Xs a b d e
  x3 : ¬ Xs b c d e
  x4 : ¬ Xs b c e a
  x5 : ¬ Xs c d e a
theorem S5.rot {a b c d e : Pp} (h : S5 a b c d e) : S5 b c d e a :=
  ⟨h.bc_d, h.bc_e, h.bc_a, h.cd_e, h.cd_a, h.cd_b, h.de_a, h.de_b, h.de_c, h.ea_b, h.ea_c, h.ea_d, h.ab_c, h.ab_d, h.ab_e, h.x3, h.x4, h.x5, fun k => h.x1 k.comm, fun k => h.x2 k.comm⟩

def A4 (a b c d : Pp) : Int := ar a b c + ar a c d
def A5 (a b c d e : Pp) : Int := ar a b c + ar a c d + ar a d e
theorem A4_rot (a b c d : Pp) : A4 b c d a = A4 a b c d := by unfold A4 ar area; grind
theorem A5_rot (a b c d e : Pp) : A5 b c d e a = A5 a b c d e := by unfold A5 ar area; grind
/-- It is told rightly. -/
def Ok4 (a b c d : Pp) : Prop := pk [a, b, c, d] = max (A4 a b c d) (-A4 a b c d) + 2
def Ok5 (a b c d e : Pp) : Prop := pk [a, b, c, d, e] = max (A5 a b c d e) (-A5 a b c d e) + 2
theorem ok4_rot {a b c d : Pp} (ha : In8 a) (hb : In8 b) (hc : In8 c) (hd : In8 d) (h : Ok4 b c d a) : Ok4 a b c d := by
  unfold Ok4 at *
  rw [pk4_rot ha hb hc hd, A4_rot] at h
  exact h
theorem ok5_rot {a b c d e : Pp} (ha : In8 a) (hb : In8 b) (hc : In8 c) (hd : In8 d) (he : In8 e) (h : Ok5 b c d e a) : Ok5 a b c d e := by
  unfold Ok5 at *
  rw [pk5_rot ha hb hc hd he, A5_rot] at h
  exact h
theorem tri_ok {a b c : Pp} (ha : In8 a) (hb : In8 b) (hc : In8 c) (h : ar a b c ≠ 0) : pk [a, b, c] = max (ar a b c) (-ar a b c) + 2 := by
  rcases Int.lt_or_le 0 (ar a b c) with g | g
  · rw [pick3 ha hb hc g]
    omega
  · have e := ar_flip a b c
    rw [← pk3_rev ha hb hc, pick3 ha hc hb (by omega)]
    omega
theorem fan4_ok {a b c d : Pp} (ha : In8 a) (hb : In8 b) (hc : In8 c) (hd : In8 d) (h : (0 < ar a b c ∧ 0 < ar a c d) ∨ (ar a b c < 0 ∧ ar a c d < 0)) : Ok4 a b c d := by
  unfold Ok4 A4
  rcases h with ⟨h1, h2⟩ | ⟨h1, h2⟩
  · rw [pick4 ha hb hc hd h1 h2]
    omega
  · have e1 := ar_flip a b c
    have e2 := ar_flip a c d
    rw [← pk4_rev ha hb hc hd, pick4 ha hd hc hb (by omega) (by omega)]
    omega
theorem three_ne {a b c : Pp} (h1 : on2 b c a = false) (h2 : on2 a b c = false) : a ≠ b ∧ b ≠ c ∧ a ≠ c := by
  refine ⟨fun e => ?_, fun e => ?_, fun e => ?_⟩
  · subst e; rw [on_left] at h1; cases h1
  · subst e; rw [on_right] at h2; cases h2
  · subst e; rw [on_right] at h1; cases h1
theorem flat4 {a b c d : Pp} (ha : In8 a) (hb : In8 b) (hc : In8 c) (hd : In8 d) (h : S4 a b c d) (h0 : ar a b c = 0) : Ok4 a b c d := by
  have hm := mid_on h0 h.bc_a h.ab_c
  obtain ⟨n1, n2, n3⟩ := three_ne h.bc_a h.ab_c
  have hz : ar a c d ≠ 0 := fun e => by
    have k := mid_on (a := c) (b := d) (c := a) (by rw [← ar_rot] at e; exact e) h.da_c h.cd_a
    rw [on_ab, on_parts n3 hm, h.ab_d, h.bc_d] at k
    cases k
  unfold Ok4 A4
  rw [drop4 ha hb hc hd n3 hm n1 n2, tri_ok ha hc hd hz, h0, Int.zero_add]
theorem pick_four {a b c d : Pp} (ha : In8 a) (hb : In8 b) (hc : In8 c) (hd : In8 d) (h : S4 a b c d) : Ok4 a b c d := by
  by_cases z1 : ar a b c = 0
  · exact flat4 ha hb hc hd h z1
  by_cases z2 : ar b c d = 0
  · exact ok4_rot ha hb hc hd (flat4 hb hc hd ha h.rot z2)
  by_cases z3 : ar c d a = 0
  · exact ok4_rot ha hb hc hd (ok4_rot hb hc hd ha (flat4 hc hd ha hb h.rot.rot z3))
  by_cases z4 : ar d a b = 0
  · exact ok4_rot ha hb hc hd (ok4_rot hb hc hd ha (ok4_rot hc hd ha hb (flat4 hd ha hb hc h.rot.rot.rot z4)))
  have e3 : ar c d a = ar a c d := by rw [ar_rot]
  have e4 : ar d a b = ar a b d := (ar_rot d a b).symm
  have e5 : ar b d a = ar a b d := ar_rot a b d
  rw [e3] at z3
  rw [e4] at z4
  by_cases f1 : (0 < ar a b c ∧ 0 < ar a c d) ∨ (ar a b c < 0 ∧ ar a c d < 0)
  · exact fan4_ok ha hb hc hd f1
  · refine ok4_rot ha hb hc hd (fan4_ok hb hc hd ha ?_)
    rw [e5]
    have x1 := h.x1
    have x2 := h.x2
    unfold Xs at x1 x2
    rw [e3, show ar c d b = ar b c d from ar_rot b c d, ← pk_sgn_mul, ← pk_sgn_mul, pk_lt, pk_lt] at x1
    rw [show ar b c a = ar a b c from ar_rot a b c, e4, show ar d a c = ar a c d from (ar_rot d a c).symm, ← pk_sgn_mul, ← pk_sgn_mul, pk_lt, pk_lt] at x2
    have key : ∀ {x y : Int}, x ≠ 0 → y ≠ 0 → (x * y < 0 ↔ (0 < x ∧ y < 0) ∨ (x < 0 ∧ 0 < y)) := fun {x y} hx hy => by
      constructor
      · intro hxy
        rcases Int.lt_or_gt_of_ne hx with g | g <;> rcases Int.lt_or_gt_of_ne hy with k | k
        · have := Int.mul_pos_of_neg_of_neg g k; omega
        · exact .inr ⟨g, k⟩
        · exact .inl ⟨g, k⟩
        · have := Int.mul_pos g k; omega
      · rintro (⟨g, k⟩ | ⟨g, k⟩)
        · exact Int.mul_neg_of_pos_of_neg g k
        · exact Int.mul_neg_of_neg_of_pos g k
    rw [key z1 z4, key z3 z2] at x1
    rw [key z2 z1, key z4 z3] at x2
    omega

theorem sep13 {a b c d e p : Pp} (h1 : 0 < ar a b c) (h2 : 0 < ar a c d) (h3 : 0 < ar a d e) (hk : 0 < ar a b d ∨ 0 < ar a c e ∨ 0 < ar a e b) (k1 : Cl3 a b c p) (k3 : Cl3 a d e p) : p = a := by
  have pb : 0 ≤ ar a b p := k1.1
  have pc : ar a c p ≤ 0 := by have := k1.2.2; have := ar_swap a c p; omega
  have pd : 0 ≤ ar a d p := k3.1
  have pe : ar a e p ≤ 0 := by have := k3.2.2; have := ar_swap a e p; omega
  have pos0 : ∀ {x y : Int}, 0 < x → x * y = 0 → y = 0 := fun {x y} hx hxy => (Int.mul_eq_zero.1 hxy).resolve_left (by omega)
  by_cases q1 : 0 < ar a b d
  · have g := ar_gp a b c d p
    have e1 : ar a d b < 0 := by rw [ar_flip]; omega
    have m1 := Int.mul_nonneg (Int.le_of_lt h1) pd
    have m2 := Int.mul_nonneg (Int.le_of_lt h2) pb
    have m3 := Int.mul_nonneg_of_nonpos_of_nonpos (Int.le_of_lt e1) pc
    have z1 := pos0 h2 (show ar a c d * ar a b p = 0 by omega)
    have z2 : ar a c p = 0 := (Int.mul_eq_zero.1 (show ar a d b * ar a c p = 0 by omega)).resolve_left (by omega)
    exact two_zero (a := a) (b := b) (c := c) (by omega) z1 (by rw [ar_swap, z2]; rfl)
  · by_cases q2 : 0 < ar a c e
    · have g := ar_gp a c d e p
      have e1 : ar a e c < 0 := by rw [ar_flip]; omega
      have m1 := Int.mul_nonpos_of_nonneg_of_nonpos (Int.le_of_lt h2) pe
      have m2 := Int.mul_nonpos_of_nonneg_of_nonpos (Int.le_of_lt h3) pc
      have m3 := Int.mul_nonpos_of_nonpos_of_nonneg (Int.le_of_lt e1) pd
      have z1 := pos0 h3 (show ar a d e * ar a c p = 0 by omega)
      have z2 : ar a d p = 0 := (Int.mul_eq_zero.1 (show ar a e c * ar a d p = 0 by omega)).resolve_left (by omega)
      exact two_zero (a := a) (b := c) (c := d) (by omega) z1 (by rw [ar_swap, z2]; rfl)
    · have q3 : 0 < ar a e b := by omega
      have g := ar_gp a b c e p
      have m1 := Int.mul_nonpos_of_nonneg_of_nonpos (Int.le_of_lt h1) pe
      have m2 := Int.mul_nonpos_of_nonpos_of_nonneg (show ar a c e ≤ 0 by omega) pb
      have m3 := Int.mul_nonpos_of_nonneg_of_nonpos (Int.le_of_lt q3) pc
      have z1 := pos0 q3 (show ar a e b * ar a c p = 0 by omega)
      have z2 := pos0 h1 (show ar a b c * ar a e p = 0 by omega)
      have g' := ar_gp a b d e p
      rw [z2, Int.mul_zero, Int.zero_add] at g'
      have m4 := Int.mul_nonneg (Int.le_of_lt h3) pb
      have m5 := Int.mul_nonneg (Int.le_of_lt q3) pd
      have z3 := pos0 h3 (show ar a d e * ar a b p = 0 by omega)
      exact two_zero (a := a) (b := b) (c := c) (by omega) z3 (by rw [ar_swap, z1]; rfl)
theorem fan5_ok {a b c d e : Pp} (ha : In8 a) (hb : In8 b) (hc : In8 c) (hd : In8 d) (he : In8 e)
    (h : (0 < ar a b c ∧ 0 < ar a c d ∧ 0 < ar a d e ∧ (0 < ar a b d ∨ 0 < ar a c e ∨ 0 < ar a e b)) ∨ (ar a b c < 0 ∧ ar a c d < 0 ∧ ar a d e < 0 ∧ (ar a b d < 0 ∨ ar a c e < 0 ∨ ar a e b < 0))) : Ok5 a b c d e := by
  unfold Ok5 A5
  rcases h with ⟨h1, h2, h3, hk⟩ | ⟨h1, h2, h3, hk⟩
  · rw [pick5 ha hb hc hd he h1 h2 h3 (fun p => sep13 h1 h2 h3 hk)]
    omega
  · have e1 := ar_flip a b c
    have e2 := ar_flip a c d
    have e3 := ar_flip a d e
    have e4 := ar_flip a b d
    have e5 := ar_flip a c e
    have e6 := ar_flip a e b
    rw [← pk5_rev ha hb hc hd he, pick5 ha he hd hc hb (by omega) (by omega) (by omega) (fun p => sep13 (by omega) (by omega) (by omega) (by omega))]
    omega
end Go.Proofs.Ytepnjknblppfcaa

namespace Go.Proofs.Ytepnjknblppfcaa

def fanB (x y z u v w : Int) : Bool := (x == 1 && y == 1 && z == 1 && (u == 1 || v == 1 || w == 1)) || (x == -1 && y == -1 && z == -1 && (u == -1 || v == -1 || w == -1))
def lt0 (x : Int) : Bool := decide (x < 0)
/-- What the signs of ten triangles must be, of five points of which no three in a row are on a line. -/
def five (s012 s013 s014 s023 s024 s034 s123 s124 s134 s234 : Int) : Bool :=
  !(mix (s012 * s034) (-(s013 * s024)) (s014 * s023)) || !(mix (s012 * s134) (-(s013 * s124)) (s014 * s123)) || !(mix (s012 * s234) (-(s023 * s124)) (s024 * s123)) || !(mix (s013 * s234) (-(s023 * s134)) (s034 * s123)) || !(mix (s014 * s234) (-(s024 * s134)) (s034 * s124)) ||
  (s013 == 0 && !(lt0 (-s023 * s123) && lt0 (s034 * -s134))) || (s124 == 0 && !(lt0 (s014 * -s024) && lt0 (-s134 * s234))) || (s023 == 0 && !(lt0 (s012 * -s013) && lt0 (-s024 * s034))) || (s134 == 0 && !(lt0 (-s013 * s014) && lt0 (s123 * -s124))) || (s024 == 0 && !(lt0 (-s124 * s012) && lt0 (s234 * -s023))) ||
  (lt0 (s012 * s013) && lt0 (s023 * s123)) || (lt0 (s013 * s014) && lt0 (s034 * s134)) || (lt0 (s123 * s124) && lt0 (s134 * s234)) || (lt0 (s124 * s012) && lt0 (s014 * s024)) || (lt0 (s234 * s023) && lt0 (s024 * s034)) ||
  fanB s012 s023 s034 s013 s024 (-s014) || fanB s123 s134 s014 s124 s013 (-s012) || fanB s234 s024 s012 s023 s124 (-s123) || fanB s034 s013 s123 s134 s023 (-s234) || fanB s014 s124 s234 s024 s134 (-s034)
theorem fiveAll : (([-1, 1] : List Int).all fun s012 => ([-1, 1] : List Int).all fun s123 => ([-1, 1] : List Int).all fun s234 => ([-1, 1] : List Int).all fun s034 => ([-1, 1] : List Int).all fun s014 => ([-1, 0, 1] : List Int).all fun s013 => ([-1, 0, 1] : List Int).all fun s023 => ([-1, 0, 1] : List Int).all fun s024 => ([-1, 0, 1] : List Int).all fun s124 => ([-1, 0, 1] : List Int).all fun s134 =>
    five s012 s013 s014 s023 s024 s034 s123 s124 s134 s234) = true := by decide +kernel
theorem pk_two {x : Int} (h : x ≠ 0) : sgn x ∈ ([-1, 1] : List Int) := by
  unfold sgn
  split
  · simp
  · rw [if_pos (by omega)]
    simp
/-- A point on the line of a side, and not on the side. -/
theorem off_line {i j k m : Pp} (h0 : ar i j k = 0) (hn : on2 i j k = false) (hm : ar i j m ≠ 0) : sgn (ar i k m) * sgn (ar k j m) < 0 := by
  have es : ar i k m + ar k j m = ar i j m := by unfold ar area at *; grind
  have e1 : ar j m k = ar k j m := ar_rot k j m
  have e2 : ar m i k = ar i k m := (ar_rot m i k).symm
  rw [← pk_sgn_mul, pk_lt]
  rcases Int.lt_or_gt_of_ne hm with g | g
  · have g' : 0 < ar j i m := by rw [ar_swap]; omega
    have f1 : ar j i k = 0 := by rw [ar_swap, h0]; rfl
    have f2 : ar i m k = -ar i k m := ar_flip i k m
    have f3 : ar m j k = -ar k j m := by rw [ar_swap, e1]
    have hc : ¬ Cl3 j i m k := fun hc => by
      have := cl_on g' f1 hc
      rw [on_ab, hn] at this
      cases this
    unfold Cl3 at hc
    rcases Int.lt_or_le 0 (ar i k m) with u | u
    · exact Int.mul_neg_of_pos_of_neg u (by omega)
    · exact Int.mul_neg_of_neg_of_pos (by omega) (by omega)
  · have hc : ¬ Cl3 i j m k := fun hc => by
      have := cl_on g h0 hc
      rw [hn] at this
      cases this
    unfold Cl3 at hc
    rcases Int.lt_or_le (ar i k m) 0 with u | u
    · exact Int.mul_neg_of_neg_of_pos u (by omega)
    · exact Int.mul_neg_of_pos_of_neg (by omega) (by omega)
theorem fan_of {x y z u v w : Int} (h : fanB (sgn x) (sgn y) (sgn z) (sgn u) (sgn v) (sgn w) = true) : (0 < x ∧ 0 < y ∧ 0 < z ∧ (0 < u ∨ 0 < v ∨ 0 < w)) ∨ (x < 0 ∧ y < 0 ∧ z < 0 ∧ (u < 0 ∨ v < 0 ∨ w < 0)) := by
  have p : ∀ {t : Int}, sgn t = 1 → 0 < t := fun {t} e => pk_pos.1 (by omega)
  have q : ∀ {t : Int}, sgn t = -1 → t < 0 := fun {t} e => pk_lt.1 (by omega)
  unfold fanB at h
  simp only [Bool.or_eq_true, Bool.and_eq_true, beq_iff_eq] at h
  rcases h with ⟨⟨⟨h1, h2⟩, h3⟩, h4⟩ | ⟨⟨⟨h1, h2⟩, h3⟩, h4⟩
  · refine .inl ⟨p h1, p h2, p h3, ?_⟩
    rcases h4 with (h4 | h4) | h4
    · exact .inl (p h4)
    · exact .inr (.inl (p h4))
    · exact .inr (.inr (p h4))
  · refine .inr ⟨q h1, q h2, q h3, ?_⟩
    rcases h4 with (h4 | h4) | h4
    · exact .inl (q h4)
    · exact .inr (.inl (q h4))
    · exact .inr (.inr (q h4))

theorem mix3 {x y z u v w : Int} (h : x * y - z * u + v * w = 0) : mix (sgn x * sgn y) (-(sgn z * sgn u)) (sgn v * sgn w) = true := by
  rw [← pk_sgn_mul, ← pk_sgn_mul, ← pk_sgn_mul, ← sgn_neg]
  exact mix_sum (by omega)
set_option maxHeartbeats 1000000 in
theorem full5 {a b c d e : Pp} (ha : In8 a) (hb : In8 b) (hc : In8 c) (hd : In8 d) (he : In8 e) (h : S5 a b c d e) (n1 : ar a b c ≠ 0) (n2 : ar b c d ≠ 0) (n3 : ar c d e ≠ 0) (n4 : ar a d e ≠ 0) (n5 : ar a b e ≠ 0) : Ok5 a b c d e := by
  have t := List.all_eq_true.1 (List.all_eq_true.1 (List.all_eq_true.1 (List.all_eq_true.1 (List.all_eq_true.1 (List.all_eq_true.1 (List.all_eq_true.1 (List.all_eq_true.1 (List.all_eq_true.1 (List.all_eq_true.1 fiveAll _ (pk_two n1)) _ (pk_two n2)) _ (pk_two n3)) _ (pk_two n4)) _ (pk_two n5)) _ (pk_mem (ar a b d))) _ (pk_mem (ar a c d))) _ (pk_mem (ar a c e))) _ (pk_mem (ar b c e))) _ (pk_mem (ar b d e))
  have g0 : mix (sgn (ar a b c) * sgn (ar a d e)) (-(sgn (ar a b d) * sgn (ar a c e))) (sgn (ar a b e) * sgn (ar a c d)) = true := mix3 (by unfold ar area; grind)
  have g1 : mix (sgn (ar a b c) * sgn (ar b d e)) (-(sgn (ar a b d) * sgn (ar b c e))) (sgn (ar a b e) * sgn (ar b c d)) = true := mix3 (by unfold ar area; grind)
  have g2 : mix (sgn (ar a b c) * sgn (ar c d e)) (-(sgn (ar a c d) * sgn (ar b c e))) (sgn (ar a c e) * sgn (ar b c d)) = true := mix3 (by unfold ar area; grind)
  have g3 : mix (sgn (ar a b d) * sgn (ar c d e)) (-(sgn (ar a c d) * sgn (ar b d e))) (sgn (ar a d e) * sgn (ar b c d)) = true := mix3 (by unfold ar area; grind)
  have g4 : mix (sgn (ar a b e) * sgn (ar c d e)) (-(sgn (ar a c e) * sgn (ar b d e))) (sgn (ar a d e) * sgn (ar b c e)) = true := mix3 (by unfold ar area; grind)
  have cda : ar c d a = ar a c d := ar_rot a c d
  have cdb : ar c d b = ar b c d := ar_rot b c d
  have dea : ar d e a = ar a d e := ar_rot a d e
  have deb : ar d e b = ar b d e := ar_rot b d e
  have dec : ar d e c = ar c d e := ar_rot c d e
  have eab : ar e a b = ar a b e := (ar_rot e a b).symm
  have eac : ar e a c = ar a c e := (ar_rot e a c).symm
  have ead : ar e a d = ar a d e := (ar_rot e a d).symm
  have bca : ar b c a = ar a b c := ar_rot a b c
  have l1 : (sgn (ar a b d) == 0 && !(lt0 (-sgn (ar a c d) * sgn (ar b c d)) && lt0 (sgn (ar a d e) * -sgn (ar b d e)))) = false := by
    cases k : sgn (ar a b d) == 0 with
    | false => rfl
    | true =>
      have k0 := pk_zero.1 (eq_of_beq k)
      have q1 := off_line (m := c) k0 h.ab_d n1
      have q2 := off_line (m := e) k0 h.ab_d n5
      rw [show ar a d c = -ar a c d from ar_flip a c d, show ar d b c = ar b c d from (ar_rot d b c).symm, sgn_neg] at q1
      rw [show ar d b e = -ar b d e from ar_swap b d e, sgn_neg] at q2
      unfold lt0
      rw [decide_eq_true q1, decide_eq_true q2]; rfl
  have l2 : (sgn (ar b c e) == 0 && !(lt0 (sgn (ar a b e) * -sgn (ar a c e)) && lt0 (-sgn (ar b d e) * sgn (ar c d e)))) = false := by
    cases k : sgn (ar b c e) == 0 with
    | false => rfl
    | true =>
      have k0 := pk_zero.1 (eq_of_beq k)
      have q1 := off_line (m := a) k0 h.bc_e (by rw [bca]; exact n1)
      have q2 := off_line (m := d) k0 h.bc_e n2
      rw [show ar b e a = ar a b e from ar_rot a b e, show ar e c a = -ar a c e by rw [ar_rot a e c, ar_flip a c e], sgn_neg] at q1
      rw [show ar b e d = -ar b d e from ar_flip b d e, show ar e c d = ar c d e from (ar_rot e c d).symm, sgn_neg] at q2
      unfold lt0
      rw [decide_eq_true q1, decide_eq_true q2]; rfl
  have l3 : (sgn (ar a c d) == 0 && !(lt0 (sgn (ar a b c) * -sgn (ar a b d)) && lt0 (-sgn (ar a c e) * sgn (ar a d e)))) = false := by
    cases k : sgn (ar a c d) == 0 with
    | false => rfl
    | true =>
      have k0 := pk_zero.1 (eq_of_beq k)
      rw [← cda] at k0
      have q1 := off_line (m := b) k0 h.cd_a (by rw [cdb]; exact n2)
      have q2 := off_line (m := e) k0 h.cd_a n3
      rw [show ar c a b = ar a b c from (ar_rot c a b).symm, show ar a d b = -ar a b d from ar_flip a b d, sgn_neg] at q1
      rw [show ar c a e = -ar a c e from ar_swap a c e, sgn_neg] at q2
      unfold lt0
      rw [decide_eq_true q1, decide_eq_true q2]; rfl
  have l4 : (sgn (ar b d e) == 0 && !(lt0 (-sgn (ar a b d) * sgn (ar a b e)) && lt0 (sgn (ar b c d) * -sgn (ar b c e)))) = false := by
    cases k : sgn (ar b d e) == 0 with
    | false => rfl
    | true =>
      have k0 := pk_zero.1 (eq_of_beq k)
      rw [← deb] at k0
      have q1 := off_line (m := a) k0 h.de_b (by rw [dea]; exact n4)
      have q2 := off_line (m := c) k0 h.de_b (by rw [dec]; exact n3)
      rw [show ar d b a = -ar a b d by rw [ar_rot a d b, ar_flip a b d], show ar b e a = ar a b e from ar_rot a b e, sgn_neg] at q1
      rw [show ar d b c = ar b c d from (ar_rot d b c).symm, show ar b e c = -ar b c e from ar_flip b c e, sgn_neg] at q2
      unfold lt0
      rw [decide_eq_true q1, decide_eq_true q2]; rfl
  have l5 : (sgn (ar a c e) == 0 && !(lt0 (-sgn (ar b c e) * sgn (ar a b c)) && lt0 (sgn (ar c d e) * -sgn (ar a c d)))) = false := by
    cases k : sgn (ar a c e) == 0 with
    | false => rfl
    | true =>
      have k0 := pk_zero.1 (eq_of_beq k)
      rw [← eac] at k0
      have q1 := off_line (m := b) k0 h.ea_c (by rw [eab]; exact n5)
      have q2 := off_line (m := d) k0 h.ea_c (by rw [ead]; exact n4)
      rw [show ar e c b = -ar b c e by rw [ar_rot b e c, ar_flip b c e], show ar c a b = ar a b c from (ar_rot c a b).symm, sgn_neg] at q1
      rw [show ar e c d = ar c d e from (ar_rot e c d).symm, show ar c a d = -ar a c d from ar_swap a c d, sgn_neg] at q2
      unfold lt0
      rw [decide_eq_true q1, decide_eq_true q2]; rfl
  have nx : ∀ {x y z u : Int}, ¬ (x * y < 0 ∧ z * u < 0) → (lt0 (x * y) && lt0 (z * u)) = false := fun {x y z u} k => by
    unfold lt0
    cases k1 : decide (x * y < 0) with
    | false => rfl
    | true =>
      cases k2 : decide (z * u < 0) with
      | false => rfl
      | true => exact absurd ⟨of_decide_eq_true k1, of_decide_eq_true k2⟩ k
  have x1 := h.x1
  have x2 := h.x2
  have x3 := h.x3
  have x4 := h.x4
  have x5 := h.x5
  unfold Xs at x1 x2 x3 x4 x5
  rw [cda, cdb] at x1
  rw [dea, deb] at x2
  rw [deb, dec] at x3
  rw [bca, eab, eac] at x4
  rw [cda, eac, ead] at x5
  unfold five at t
  rw [g0, g1, g2, g3, g4, l1, l2, l3, l4, l5, nx x1, nx x2, nx x3, nx x4, nx x5] at t
  simp only [Bool.not_true, Bool.false_or, Bool.or_eq_true, ← sgn_neg] at t
  rcases t with (((t | t) | t) | t) | t
  · refine fan5_ok ha hb hc hd he ?_
    have q := fan_of t
    rwa [show -ar a b e = ar a e b from (ar_flip a b e).symm] at q
  · refine ok5_rot ha hb hc hd he (fan5_ok hb hc hd he ha ?_)
    have q := fan_of t
    rwa [show -ar a b c = ar b a c from (ar_swap a b c).symm, show ar a b e = ar b e a from (ar_rot a b e).symm, show ar a b d = ar b d a from (ar_rot a b d).symm] at q
  · refine ok5_rot ha hb hc hd he (ok5_rot hb hc hd he ha (fan5_ok hc hd he ha hb ?_))
    have q := fan_of t
    rwa [show -ar b c d = ar c b d from (ar_swap b c d).symm, show ar a c e = ar c e a from (ar_rot a c e).symm, show ar a b c = ar c a b from ar_rot c a b, ← cda, show ar b c e = ar c e b from (ar_rot b c e).symm] at q
  · refine ok5_rot ha hb hc hd he (ok5_rot hb hc hd he ha (ok5_rot hc hd he ha hb (fan5_ok hd he ha hb hc ?_)))
    have q := fan_of t
    rwa [show -ar c d e = ar d c e from (ar_swap c d e).symm, ← dea, show ar a b d = ar d a b from ar_rot d a b, show ar b c d = ar d b c from ar_rot d b c, ← deb, show ar a c d = ar d a c from ar_rot d a c] at q
  · refine ok5_rot ha hb hc hd he (ok5_rot hb hc hd he ha (ok5_rot hc hd he ha hb (ok5_rot hd he ha hb hc (fan5_ok he ha hb hc hd ?_))))
    have q := fan_of t
    rwa [show -ar a d e = ar e d a by rw [ar_rot a e d, ar_flip a d e], ← eab, show ar b c e = ar e b c from ar_rot e b c, show ar c d e = ar e c d from ar_rot e c d, ← eac, show ar b d e = ar e b d from ar_rot e b d] at q

theorem flat5 {a b c d e : Pp} (ha : In8 a) (hb : In8 b) (hc : In8 c) (hd : In8 d) (he : In8 e) (h : S5 a b c d e) (h0 : ar a b c = 0) : Ok5 a b c d e := by
  have hm := mid_on h0 h.bc_a h.ab_c
  obtain ⟨n1, n2, n3⟩ := three_ne h.bc_a h.ab_c
  have s4 : S4 a c d e := by
    refine ⟨?_, ?_, h.cd_e, h.cd_a, h.de_a, h.de_c, h.ea_c, h.ea_d, fun k => ?_, h.x5⟩
    · rw [on_parts n3 hm, h.ab_d, h.bc_d]; rfl
    · rw [on_parts n3 hm, h.ab_e, h.bc_e]; rfl
    · rcases cross_parts hm n1 n2 k with q | q | q
      · exact h.x2 q
      · exact h.x3 q
      · rw [h.de_b] at q; cases q
  have q := pick_four ha hc hd he s4
  unfold Ok4 A4 at q
  unfold Ok5 A5
  rw [drop5 ha hb hc hd he n3 hm n1 n2, q, h0, Int.zero_add]
theorem pick_five {a b c d e : Pp} (ha : In8 a) (hb : In8 b) (hc : In8 c) (hd : In8 d) (he : In8 e) (h : S5 a b c d e) : Ok5 a b c d e := by
  by_cases z1 : ar a b c = 0
  · exact flat5 ha hb hc hd he h z1
  by_cases z2 : ar b c d = 0
  · exact ok5_rot ha hb hc hd he (flat5 hb hc hd he ha h.rot z2)
  by_cases z3 : ar c d e = 0
  · exact ok5_rot ha hb hc hd he (ok5_rot hb hc hd he ha (flat5 hc hd he ha hb h.rot.rot z3))
  by_cases z4 : ar d e a = 0
  · exact ok5_rot ha hb hc hd he (ok5_rot hb hc hd he ha (ok5_rot hc hd he ha hb (flat5 hd he ha hb hc h.rot.rot.rot z4)))
  by_cases z5 : ar e a b = 0
  · exact ok5_rot ha hb hc hd he (ok5_rot hb hc hd he ha (ok5_rot hc hd he ha hb (ok5_rot hd he ha hb hc (flat5 he ha hb hc hd h.rot.rot.rot.rot z5))))
  exact full5 ha hb hc hd he h z1 z2 z3 (by rw [ar_rot] at z4; exact z4) (by rw [← ar_rot e a b] at z5; exact z5)
end Go.Proofs.Ytepnjknblppfcaa
