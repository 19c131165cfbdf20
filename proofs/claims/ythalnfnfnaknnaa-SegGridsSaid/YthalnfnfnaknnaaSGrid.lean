/-
  Two segments: what they have in common.
-/
import Derived.Test.YthalnfnfnaknnaaSLine
namespace Go.Proofs.Ythalnfnfnaknnaa

/-- Vectors along one that is not nought are along each other. -/
theorem par {x1 x2 y1 y2 z1 z2 : Int} (h1 : x1 * z2 = x2 * z1) (h2 : y1 * z2 = y2 * z1) (hz : ¬ (z1 = 0 ∧ z2 = 0)) : x1 * y2 = x2 * y1 := by
  by_cases h : z1 = 0
  · have h' : z2 ≠ 0 := fun e => hz ⟨h, e⟩
    rw [h, Int.mul_zero] at h1 h2
    have e1 : x1 = 0 := by
      rcases Int.mul_eq_zero.1 h1 with e | e
      · exact e
      · exact absurd e h'
    have e2 : y1 = 0 := by
      rcases Int.mul_eq_zero.1 h2 with e | e
      · exact e
      · exact absurd e h'
    rw [e1, e2, Int.zero_mul, Int.mul_zero]
  · refine Int.eq_of_mul_eq_mul_right h ?_
    calc x1 * y2 * z1 = x1 * (y2 * z1) := by ac_rfl
      _ = x1 * (y1 * z2) := by rw [h2]
      _ = y1 * (x1 * z2) := by ac_rfl
      _ = y1 * (x2 * z1) := by rw [h1]
      _ = x2 * y1 * z1 := by ac_rfl

/-- No turn: as an equation. -/
theorem area_zero {ax ay bx by' cx cy : Int} : area ax ay bx by' cx cy = 0 ↔ (bx - ax) * (cy - ay) = (by' - ay) * (cx - ax) := by
  unfold area
  omega

theorem on_iff (a b p : Pp) : on2 a b p = true ↔ (b.1 - a.1) * (p.2 - a.2) = (b.2 - a.2) * (p.1 - a.1) ∧ (min a.1 b.1 ≤ p.1 ∧ p.1 ≤ max a.1 b.1) ∧ (min a.2 b.2 ≤ p.2 ∧ p.2 ≤ max a.2 b.2) := by
  unfold on2 onP inBox ovl
  simp only [Bool.and_eq_true, beq_iff_eq, area_zero, decide_eq_true_eq]
  omega

/-- Between in the first number, on the line: between in the second one. -/
theorem second_between {D E s t : Int} (h : D * s = E * t) (hD : D ≠ 0) (ht : (0 ≤ t ∧ t ≤ D) ∨ (D ≤ t ∧ t ≤ 0)) : (0 ≤ s ∧ s ≤ E) ∨ (E ≤ s ∧ s ≤ 0) := by
  have key : ∀ {D E s t : Int}, D * s = E * t → 0 < D → 0 ≤ t → t ≤ D → (0 ≤ s ∧ s ≤ E) ∨ (E ≤ s ∧ s ≤ 0) := by
    intro D E s t h hD h0 h1
    rcases Int.le_total 0 E with hE | hE
    · left
      have a1 : 0 * D ≤ s * D := by rw [Int.zero_mul, Int.mul_comm s, h]; exact Int.mul_nonneg hE h0
      have a2 : s * D ≤ E * D := by rw [Int.mul_comm s, h]; exact Int.mul_le_mul_of_nonneg_left h1 hE
      exact ⟨(mul_le_pos hD 0 s).1 a1, (mul_le_pos hD s E).1 a2⟩
    · right
      have a1 : s * D ≤ 0 * D := by rw [Int.zero_mul, Int.mul_comm s, h]; exact Int.mul_nonpos_of_nonpos_of_nonneg hE h0
      have a2 : E * D ≤ s * D := by rw [Int.mul_comm s, h]; exact Int.mul_le_mul_of_nonpos_left hE h1
      exact ⟨(mul_le_pos hD E s).1 a2, (mul_le_pos hD s 0).1 a1⟩
  rcases (show 0 < D ∨ D < 0 by omega) with hp | hn
  · exact key h hp (by omega) (by omega)
  · exact key (D := -D) (E := E) (s := s) (t := -t) (by rw [Int.neg_mul, Int.mul_neg, h]) (by omega) (by omega) (by omega)

/-- r lies on the line through o along z. -/
def Cl (o z r : Pp) : Prop := z.1 * (r.2 - o.2) = z.2 * (r.1 - o.1)
theorem Cl.diff {o z r s : Pp} (hr : Cl o z r) (hs : Cl o z s) : z.1 * (s.2 - r.2) = z.2 * (s.1 - r.1) := by
  unfold Cl at hr hs
  rw [show s.2 - r.2 = (s.2 - o.2) - (r.2 - o.2) by omega, show s.1 - r.1 = (s.1 - o.1) - (r.1 - o.1) by omega, Int.mul_sub z.1 (s.2 - o.2), Int.mul_sub z.2 (s.1 - o.1), hr, hs]
theorem Cl.three {o z a b r : Pp} (hz : ¬ (z.1 = 0 ∧ z.2 = 0)) (ha : Cl o z a) (hb : Cl o z b) (hr : Cl o z r) : (b.1 - a.1) * (r.2 - a.2) = (b.2 - a.2) * (r.1 - a.1) := by
  have h1 := ha.diff hb
  have h2 := ha.diff hr
  refine par (z1 := z.1) (z2 := z.2) ?_ ?_ hz
  · rw [Int.mul_comm, ← h1, Int.mul_comm]
  · rw [Int.mul_comm, ← h2, Int.mul_comm]
theorem Cl.eq {o z r s : Pp} (hz : z.1 ≠ 0) (hr : Cl o z r) (hs : Cl o z s) (h : r.1 = s.1) : r = s := by
  have h1 := hr.diff hs
  rw [h, Int.sub_self, Int.mul_zero] at h1
  have h2 : s.2 - r.2 = 0 := by
    rcases Int.mul_eq_zero.1 h1 with e | e
    · exact absurd e hz
    · exact e
  exact Prod.ext h (by omega)
theorem Cl.eqp {o z r s : Pp} (hz : z.1 ≠ 0) (hr : Cl o z r) (hs : Cl o z s) : eqp r s = decide (r.1 = s.1) := by
  rw [Bool.eq_iff_iff, eqp_iff, decide_eq_true_eq]
  exact ⟨fun h => by rw [h], fun h => hr.eq hz hs h⟩
theorem Cl.on {o z a b r : Pp} (hz : z.1 ≠ 0) (ha : Cl o z a) (hb : Cl o z b) (hr : Cl o z r) : on2 a b r = btw2 a.1 b.1 r.1 := by
  rw [Bool.eq_iff_iff, on_iff]
  unfold btw2
  simp only [Bool.and_eq_true, decide_eq_true_eq]
  refine ⟨fun h => h.2.1, fun h => ⟨ha.three (fun e => hz e.1) hb hr, h, ?_⟩⟩
  by_cases hab : a.1 = b.1
  · have e1 := ha.eq hz hb hab
    have e2 := hr.eq hz ha (by omega)
    rw [← e1, e2]
    omega
  · have := second_between (ha.three (fun e => hz e.1) hb hr) (by omega) (by omega)
    omega

def flags (a b c d : Pp) : Bool := twoB (on2 c d a) (on2 c d b) (on2 a b c) (on2 a b d) (eqp a b) (eqp a c) (eqp a d) (eqp b c) (eqp b d) (eqp c d)
def anyS (a b c d : Pp) : Bool := on2 c d a || on2 c d b || on2 a b c || on2 a b d
def flags1 (a b c d : Int) : Bool := twoB (btw2 c d a) (btw2 c d b) (btw2 a b c) (btw2 a b d) (decide (a = b)) (decide (a = c)) (decide (a = d)) (decide (b = c)) (decide (b = d)) (decide (c = d))
def any1 (a b c d : Int) : Bool := btw2 c d a || btw2 c d b || btw2 a b c || btw2 a b d
theorem relP_flags (a b c d : Pp) : relP a b c d = if flags a b c d then 4 else if anyS a b c d then (if eqp a c || eqp a d || eqp b c || eqp b d then 1 else 2) else if crs a b c d then 3 else 0 := relP_spec a b c d
theorem line_flags (a b c d : Int) : flags (a * 1, a * 0) (b * 1, b * 0) (c * 1, c * 0) (d * 1, d * 0) = flags1 a b c d ∧ anyS (a * 1, a * 0) (b * 1, b * 0) (c * 1, c * 0) (d * 1, d * 0) = any1 a b c d := by
  have hz : ¬ ((1 : Int) = 0 ∧ (0 : Int) = 0) := by omega
  unfold flags anyS flags1 any1
  simp only [on_line hz, eqp_line hz, and_self]
theorem two_1d {a b c d p q : Int} (hpq : p ≠ q) (h1 : btw2 a b p = true) (h2 : btw2 a b q = true) (h3 : btw2 c d p = true) (h4 : btw2 c d q = true) : flags1 a b c d = true := by
  have hz : ¬ ((1 : Int) = 0 ∧ (0 : Int) = 0) := by omega
  unfold btw2 at h1 h2 h3 h4
  simp only [Bool.and_eq_true, decide_eq_true_eq] at h1 h2 h3 h4
  have h := (relP_line hz a b c d).2.1 (by omega)
  rw [relP_flags, (line_flags a b c d).1] at h
  cases hf : flags1 a b c d with
  | true => rfl
  | false =>
    rw [hf, if_neg (by decide)] at h
    split at h
    · split at h <;> omega
    · split at h <;> omega
theorem any_1d {a b c d p : Int} (h1 : btw2 a b p = true) (h3 : btw2 c d p = true) : any1 a b c d = true := by
  unfold any1 btw2 at *
  simp only [Bool.or_eq_true, Bool.and_eq_true, decide_eq_true_eq] at *
  rcases Int.le_total a b with g | g <;> rcases Int.le_total c d with g' | g' <;> omega

/-- On one line: what is common, in the first number or in the second. -/
theorem Cl.flags {o z a b c d : Pp} (hz : z.1 ≠ 0) (ha : Cl o z a) (hb : Cl o z b) (hc : Cl o z c) (hd : Cl o z d) : flags a b c d = flags1 a.1 b.1 c.1 d.1 ∧ anyS a b c d = any1 a.1 b.1 c.1 d.1 := by
  unfold Go.Proofs.Ythalnfnfnaknnaa.flags anyS flags1 any1
  rw [hc.on hz hd ha, hc.on hz hd hb, ha.on hz hb hc, ha.on hz hb hd, ha.eqp hz hb, ha.eqp hz hc, ha.eqp hz hd, hb.eqp hz hc, hb.eqp hz hd, hc.eqp hz hd]
  exact ⟨rfl, rfl⟩
def mir (p : Pp) : Pp := (p.2, p.1)
theorem mir_flags (a b c d : Pp) : flags (mir a) (mir b) (mir c) (mir d) = flags a b c d ∧ anyS (mir a) (mir b) (mir c) (mir d) = anyS a b c d := by
  have he : ∀ a b : Pp, eqp (mir a) (mir b) = eqp a b := fun a b => by unfold mir eqp; exact Bool.and_comm _ _
  have ho : ∀ a b p : Pp, on2 (mir a) (mir b) (mir p) = on2 a b p := on_mirror
  unfold flags anyS
  simp only [he, ho, and_self]
theorem Cl.mir {o z r : Pp} (h : Cl o z r) : Cl (mir o) (mir z) (mir r) := by
  unfold Cl Go.Proofs.Ythalnfnfnaknnaa.mir at *
  exact h.symm
theorem line_two {o z a b c d p q : Pp} (hz : ¬ (z.1 = 0 ∧ z.2 = 0)) (ha : Cl o z a) (hb : Cl o z b) (hc : Cl o z c) (hd : Cl o z d) (hp : Cl o z p) (hq : Cl o z q) (hpq : p ≠ q)
    (h1 : on2 a b p = true) (h2 : on2 a b q = true) (h3 : on2 c d p = true) (h4 : on2 c d q = true) : flags a b c d = true := by
  have key : ∀ {o z a b c d p q : Pp}, z.1 ≠ 0 → Cl o z a → Cl o z b → Cl o z c → Cl o z d → Cl o z p → Cl o z q → p ≠ q → on2 a b p = true → on2 a b q = true → on2 c d p = true → on2 c d q = true → flags a b c d = true := by
    intro o z a b c d p q hz ha hb hc hd hp hq hpq h1 h2 h3 h4
    rw [ha.on hz hb hp] at h1
    rw [ha.on hz hb hq] at h2
    rw [hc.on hz hd hp] at h3
    rw [hc.on hz hd hq] at h4
    rw [(ha.flags hz hb hc hd).1]
    exact two_1d (fun e => hpq (hp.eq hz hq e)) h1 h2 h3 h4
  by_cases h : z.1 = 0
  · have h' : z.2 ≠ 0 := fun e => hz ⟨h, e⟩
    rw [← (mir_flags a b c d).1]
    refine key (o := mir o) (z := mir z) (p := mir p) (q := mir q) h' ha.mir hb.mir hc.mir hd.mir hp.mir hq.mir (fun e => hpq ?_) (by rw [show on2 (mir a) (mir b) (mir p) = on2 a b p from on_mirror a b p]; exact h1) (by rw [show on2 (mir a) (mir b) (mir q) = on2 a b q from on_mirror a b q]; exact h2) (by rw [show on2 (mir c) (mir d) (mir p) = on2 c d p from on_mirror c d p]; exact h3) (by rw [show on2 (mir c) (mir d) (mir q) = on2 c d q from on_mirror c d q]; exact h4)
    unfold mir at e
    injection e with e1 e2
    exact Prod.ext e2 e1
  · exact key h ha hb hc hd hp hq hpq h1 h2 h3 h4
theorem line_any {o z a b c d p : Pp} (hz : ¬ (z.1 = 0 ∧ z.2 = 0)) (ha : Cl o z a) (hb : Cl o z b) (hc : Cl o z c) (hd : Cl o z d) (hp : Cl o z p) (h1 : on2 a b p = true) (h3 : on2 c d p = true) : anyS a b c d = true := by
  have key : ∀ {o z a b c d p : Pp}, z.1 ≠ 0 → Cl o z a → Cl o z b → Cl o z c → Cl o z d → Cl o z p → on2 a b p = true → on2 c d p = true → anyS a b c d = true := by
    intro o z a b c d p hz ha hb hc hd hp h1 h3
    rw [ha.on hz hb hp] at h1
    rw [hc.on hz hd hp] at h3
    rw [(ha.flags hz hb hc hd).2]
    exact any_1d h1 h3
  by_cases h : z.1 = 0
  · have h' : z.2 ≠ 0 := fun e => hz ⟨h, e⟩
    rw [← (mir_flags a b c d).2]
    exact key (o := mir o) (z := mir z) (p := mir p) h' ha.mir hb.mir hc.mir hd.mir hp.mir (by rw [show on2 (mir a) (mir b) (mir p) = on2 a b p from on_mirror a b p]; exact h1) (by rw [show on2 (mir c) (mir d) (mir p) = on2 c d p from on_mirror c d p]; exact h3)
  · exact key h ha hb hc hd hp h1 h3

/-- A segment's ends are on the line through two unlike points of it. -/
theorem on_eq {a p : Pp} (h : on2 a a p = true) : p = a := by
  have := (on_iff a a p).1 h
  exact Prod.ext (by omega) (by omega)
theorem end_on_line {a b p q : Pp} (hpq : p ≠ q) (h1 : on2 a b p = true) (h2 : on2 a b q = true) : Cl p (q.1 - p.1, q.2 - p.2) a := by
  have hab : ¬ (b.1 - a.1 = 0 ∧ b.2 - a.2 = 0) := fun e => by
    have : b = a := Prod.ext (by omega) (by omega)
    subst this
    exact hpq ((on_eq h1).trans (on_eq h2).symm)
  have e1 := ((on_iff a b p).1 h1).1
  have e2 := ((on_iff a b q).1 h2).1
  have e3 : (b.1 - a.1) * (q.2 - p.2) = (b.2 - a.2) * (q.1 - p.1) := by
    rw [show q.2 - p.2 = (q.2 - a.2) - (p.2 - a.2) by omega, show q.1 - p.1 = (q.1 - a.1) - (p.1 - a.1) by omega, Int.mul_sub (b.1 - a.1) (q.2 - a.2), Int.mul_sub (b.2 - a.2) (q.1 - a.1), e1, e2]
  unfold Cl
  dsimp only
  have := par (x1 := q.1 - p.1) (x2 := q.2 - p.2) (y1 := p.1 - a.1) (y2 := p.2 - a.2) (z1 := b.1 - a.1) (z2 := b.2 - a.2) (by rw [Int.mul_comm, ← e3, Int.mul_comm]) (by rw [Int.mul_comm, ← e1, Int.mul_comm]) hab
  rw [show a.2 - p.2 = -(p.2 - a.2) by omega, show a.1 - p.1 = -(p.1 - a.1) by omega, Int.mul_neg, Int.mul_neg, this]
/-- Two unlike points on both: two unlike ends on both. -/
theorem common_two {a b c d p q : Pp} (hpq : p ≠ q) (h1 : on2 a b p = true) (h2 : on2 a b q = true) (h3 : on2 c d p = true) (h4 : on2 c d q = true) : flags a b c d = true := by
  have hz : ¬ (q.1 - p.1 = 0 ∧ q.2 - p.2 = 0) := fun e => hpq (Prod.ext (by omega) (by omega))
  refine line_two (o := p) (z := (q.1 - p.1, q.2 - p.2)) hz (end_on_line hpq h1 h2) (end_on_line hpq (by rw [on_ab]; exact h1) (by rw [on_ab]; exact h2)) (end_on_line hpq h3 h4) (end_on_line hpq (by rw [on_ab]; exact h3) (by rw [on_ab]; exact h4)) ?_ ?_ hpq h1 h2 h3 h4
  · unfold Cl; simp
  · unfold Cl; dsimp only; exact Int.mul_comm _ _

theorem opp_sign {D t Ac Ad : Int} (h : (D - t) * Ac + t * Ad = 0) (ht : (0 < t ∧ t < D) ∨ (D < t ∧ t < 0)) (hc : Ac ≠ 0) (_hd : Ad ≠ 0) : sgn Ac * sgn Ad < 0 := by
  have key : ∀ {D t Ac Ad : Int}, (D - t) * Ac + t * Ad = 0 → 0 < t → t < D → Ac ≠ 0 → sgn Ac * sgn Ad < 0 := by
    intro D t Ac Ad h h0 h1 hc
    rcases (show 0 < Ac ∨ Ac < 0 by omega) with g | g
    · have p1 := Int.mul_pos (show 0 < D - t by omega) g
      have p2 : Ad < 0 := Classical.byContradiction fun hx => by
        have := Int.mul_nonneg (show 0 ≤ t by omega) (show 0 ≤ Ad by omega)
        omega
      unfold sgn
      rw [if_neg (by omega), if_pos g, if_pos p2]
      decide
    · have p1 := Int.mul_neg_of_pos_of_neg (show 0 < D - t by omega) g
      have p2 : 0 < Ad := Classical.byContradiction fun hx => by
        have := Int.mul_nonpos_of_nonneg_of_nonpos (show 0 ≤ t by omega) (show Ad ≤ 0 by omega)
        omega
      unfold sgn
      rw [if_pos g, if_neg (by omega), if_pos p2]
      decide
  rcases ht with ⟨h0, h1⟩ | ⟨h0, h1⟩
  · exact key h h0 h1 hc
  · refine key (D := -D) (t := -t) ?_ (by omega) (by omega) hc
    rw [show -D - -t = -(D - t) by omega, Int.neg_mul, Int.neg_mul]
    omega
theorem affine {u1 u2 a1 a2 c1 c2 d1 d2 p1 p2 : Int} (h : (d1 - c1) * (p2 - c2) = (d2 - c2) * (p1 - c1)) :
    (d1 - c1) * (u1 * (p2 - a2) - u2 * (p1 - a1)) = (d1 - c1 - (p1 - c1)) * (u1 * (c2 - a2) - u2 * (c1 - a1)) + (p1 - c1) * (u1 * (d2 - a2) - u2 * (d1 - a1)) := by
  grind
theorem affine2 {u1 u2 a1 a2 c1 c2 d1 d2 p1 p2 : Int} (h : (d1 - c1) * (p2 - c2) = (d2 - c2) * (p1 - c1)) :
    (d2 - c2) * (u1 * (p2 - a2) - u2 * (p1 - a1)) = (d2 - c2 - (p2 - c2)) * (u1 * (c2 - a2) - u2 * (c1 - a1)) + (p2 - c2) * (u1 * (d2 - a2) - u2 * (d1 - a1)) := by
  grind

/-- An end of the other one that is on the line, and a common point that is no end: all on one line. -/
theorem end_off {a b c d p : Pp} (h1 : on2 a b p = true) (h3 : on2 c d p = true) (hpc : p ≠ c) (hab : a ≠ b) (hn : anyS a b c d = false) : area a.1 a.2 b.1 b.2 c.1 c.2 ≠ 0 := by
  intro h0
  have hz : ¬ ((b.1 - a.1, b.2 - a.2) : Pp).1 = 0 ∨ ¬ ((b.1 - a.1, b.2 - a.2) : Pp).2 = 0 := by
    by_cases e : b.1 - a.1 = 0
    · right
      intro e2
      exact hab (Prod.ext (by omega) (by dsimp only at e2; omega))
    · exact .inl e
  have hz' : ¬ (((b.1 - a.1, b.2 - a.2) : Pp).1 = 0 ∧ ((b.1 - a.1, b.2 - a.2) : Pp).2 = 0) := by
    rcases hz with e | e
    · exact fun x => e x.1
    · exact fun x => e x.2
  have ca : Cl a (b.1 - a.1, b.2 - a.2) a := by unfold Cl; simp
  have cb : Cl a (b.1 - a.1, b.2 - a.2) b := by unfold Cl; dsimp only; exact Int.mul_comm _ _
  have cp : Cl a (b.1 - a.1, b.2 - a.2) p := ((on_iff a b p).1 h1).1
  have cc : Cl a (b.1 - a.1, b.2 - a.2) c := area_zero.1 h0
  have cd : Cl a (b.1 - a.1, b.2 - a.2) d := by
    have e1 := cc.diff cp
    have e2 := ((on_iff c d p).1 h3).1
    have hp : ¬ (p.1 - c.1 = 0 ∧ p.2 - c.2 = 0) := fun e => hpc (Prod.ext (by omega) (by omega))
    have e3 := par (x1 := b.1 - a.1) (x2 := b.2 - a.2) (y1 := d.1 - c.1) (y2 := d.2 - c.2) e1 e2 hp
    unfold Cl at cc ⊢
    dsimp only at cc ⊢
    rw [show d.2 - a.2 = (d.2 - c.2) + (c.2 - a.2) by omega, show d.1 - a.1 = (d.1 - c.1) + (c.1 - a.1) by omega, Int.mul_add, Int.mul_add, e3, cc]
  have := line_any hz' ca cb cc cd cp h1 h3
  rw [hn] at this
  cases this
theorem cross_side {a b c d p : Pp} (h1 : on2 a b p = true) (h3 : on2 c d p = true) (hpc : p ≠ c) (hpd : p ≠ d) (hc : area a.1 a.2 b.1 b.2 c.1 c.2 ≠ 0) (hd : area a.1 a.2 b.1 b.2 d.1 d.2 ≠ 0) : tr2 a b c * tr2 a b d < 0 := by
  have e := ((on_iff c d p).1 h3)
  have e1 := ((on_iff a b p).1 h1).1
  have h0 : (b.1 - a.1) * (p.2 - a.2) - (b.2 - a.2) * (p.1 - a.1) = 0 := by rw [e1]; omega
  unfold tr2
  by_cases hD : d.1 - c.1 = 0
  · have hD2 : d.2 - c.2 ≠ 0 := fun e2 => by
      refine hpc ?_
      exact Prod.ext (by omega) (by omega)
    have k := affine2 (u1 := b.1 - a.1) (u2 := b.2 - a.2) (a1 := a.1) (a2 := a.2) e.1
    rw [h0, Int.mul_zero] at k
    refine opp_sign (D := d.2 - c.2) (t := p.2 - c.2) k.symm ?_ hc hd
    have n1 : p.2 ≠ c.2 := fun x => hpc (Prod.ext (by omega) x)
    have n2 : p.2 ≠ d.2 := fun x => hpd (Prod.ext (by omega) x)
    omega
  · have k := affine (u1 := b.1 - a.1) (u2 := b.2 - a.2) (a1 := a.1) (a2 := a.2) e.1
    rw [h0, Int.mul_zero] at k
    refine opp_sign (D := d.1 - c.1) (t := p.1 - c.1) k.symm ?_ hc hd
    have n1 : p.1 ≠ c.1 := fun x => by
      have h5 := e.1
      rw [x, Int.sub_self, Int.mul_zero] at h5
      rcases Int.mul_eq_zero.1 h5 with y | y
      · exact hD y
      · exact hpc (Prod.ext x (by omega))
    have n2 : p.1 ≠ d.1 := fun x => by
      have h5 := e.1
      rw [x, Int.mul_comm (d.2 - c.2)] at h5
      have := Int.eq_of_mul_eq_mul_left hD h5
      exact hpd (Prod.ext x (by omega))
    omega
/-- A common point, and no end of one on the other: they cross. -/
theorem common_cross {a b c d p : Pp} (h1 : on2 a b p = true) (h3 : on2 c d p = true) (hn : anyS a b c d = false) : crs a b c d = true := by
  have hn' := hn
  unfold anyS at hn'
  simp only [Bool.or_eq_false_iff] at hn'
  obtain ⟨⟨⟨s1, s2⟩, s3⟩, s4⟩ := hn'
  have n1 : p ≠ a := fun e => by rw [e, s1] at h3; cases h3
  have n2 : p ≠ b := fun e => by rw [e, s2] at h3; cases h3
  have n3 : p ≠ c := fun e => by rw [e, s3] at h1; cases h1
  have n4 : p ≠ d := fun e => by rw [e, s4] at h1; cases h1
  have hab : a ≠ b := fun e => n1 (on_eq (by rw [← e] at h1; exact h1))
  have hcd : c ≠ d := fun e => n3 (on_eq (by rw [← e] at h3; exact h3))
  have hn2 : anyS c d a b = false := by
    unfold anyS
    rw [s1, s2, s3, s4]
    rfl
  have hna : anyS a b d c = false := by
    unfold anyS
    rw [on_ab c d a, on_ab c d b, s1, s2, s3, s4]
    rfl
  have hnb : anyS c d b a = false := by
    unfold anyS
    rw [on_ab a b c, on_ab a b d, s1, s2, s3, s4]
    rfl
  have h3' : on2 d c p = true := by rw [on_ab]; exact h3
  have h1' : on2 b a p = true := by rw [on_ab]; exact h1
  have k1 := end_off h1 h3 n3 hab hn
  have k2 := end_off h1 h3' n4 hab hna
  have k3 := end_off h3 h1 n1 hcd hn2
  have k4 := end_off h3 h1' n2 hcd hnb
  have e1 : eqp a b = false := by
    cases h : eqp a b with
    | false => rfl
    | true => exact absurd (eqp_iff.1 h) hab
  have e2 : eqp c d = false := by
    cases h : eqp c d with
    | false => rfl
    | true => exact absurd (eqp_iff.1 h) hcd
  unfold crs
  rw [e1, e2, decide_eq_true (cross_side h1 h3 n3 n4 k1 k2), decide_eq_true (cross_side h3 h1 n1 n2 k3 k4)]
  rfl
end Go.Proofs.Ythalnfnfnaknnaa
