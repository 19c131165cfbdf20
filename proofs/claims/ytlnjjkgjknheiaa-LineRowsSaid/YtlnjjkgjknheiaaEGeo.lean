/-
  Relate by the sides on which the ends lie: plain theory.
-/
import Derived.Test.YtlnjjkgjknheiaaMC
namespace Go.Proofs.Ytlnjjkgjknheiaa

/-- A point that is on the segment from c to d does not lie strictly at one side with both. -/
theorem side_lin (a b c d p : Pp) : (d.1 - c.1) * area a.1 a.2 b.1 b.2 p.1 p.2 = (d.1 - p.1) * area a.1 a.2 b.1 b.2 c.1 c.2 + (p.1 - c.1) * area a.1 a.2 b.1 b.2 d.1 d.2 + (b.1 - a.1) * area c.1 c.2 d.1 d.2 p.1 p.2 := by
  unfold area
  grind
theorem side_linY (a b c d p : Pp) : (d.2 - c.2) * area a.1 a.2 b.1 b.2 p.1 p.2 = (d.2 - p.2) * area a.1 a.2 b.1 b.2 c.1 c.2 + (p.2 - c.2) * area a.1 a.2 b.1 b.2 d.1 d.2 + (b.2 - a.2) * area c.1 c.2 d.1 d.2 p.1 p.2 := by
  unfold area
  grind
theorem sgn_pos {t : Int} : sgn t = 1 ↔ 0 < t := by unfold sgn; split <;> (try split) <;> omega
theorem sgn_lt {t : Int} : sgn t = -1 ↔ t < 0 := by unfold sgn; split <;> (try split) <;> omega
theorem sgn_nought {t : Int} : sgn t = 0 ↔ t = 0 := by unfold sgn; split <;> (try split) <;> omega
theorem sgn_mul {s t : Int} (h : 0 < sgn s * sgn t) : (0 < s ∧ 0 < t) ∨ (s < 0 ∧ t < 0) := by
  rcases (show s < 0 ∨ s = 0 ∨ 0 < s by omega) with hs | hs | hs
  · rcases (show t < 0 ∨ t = 0 ∨ 0 < t by omega) with ht | ht | ht
    · exact .inr ⟨hs, ht⟩
    · rw [sgn_nought.2 ht] at h; simp at h
    · rw [sgn_lt.2 hs, sgn_pos.2 ht] at h; exact absurd h (by decide)
  · rw [sgn_nought.2 hs] at h; simp at h
  · rcases (show t < 0 ∨ t = 0 ∨ 0 < t by omega) with ht | ht | ht
    · rw [sgn_pos.2 hs, sgn_lt.2 ht] at h; exact absurd h (by decide)
    · rw [sgn_nought.2 ht] at h; simp at h
    · exact .inl ⟨hs, ht⟩
theorem two_none {u v s t : Int} (hu : 0 ≤ u ∧ 0 ≤ v ∨ u ≤ 0 ∧ v ≤ 0) (hs : (0 < s ∧ 0 < t) ∨ (s < 0 ∧ t < 0)) (h : u * s + v * t = 0) : u = 0 ∧ v = 0 := by
  have key : ∀ u v s t : Int, 0 ≤ u → 0 ≤ v → 0 < s → 0 < t → u * s + v * t = 0 → u = 0 ∧ v = 0 := by
    intro u v s t h1 h2 h3 h4 h5
    have g1 : 0 ≤ u * s := Int.mul_nonneg h1 (by omega)
    have g2 : 0 ≤ v * t := Int.mul_nonneg h2 (by omega)
    have g3 : u * s = 0 := by omega
    have g4 : v * t = 0 := by omega
    exact ⟨(Int.mul_eq_zero.1 g3).resolve_right (by omega), (Int.mul_eq_zero.1 g4).resolve_right (by omega)⟩
  rcases hu with ⟨h1, h2⟩ | ⟨h1, h2⟩ <;> rcases hs with ⟨h3, h4⟩ | ⟨h3, h4⟩
  · exact key u v s t h1 h2 h3 h4 h
  · exact key u v (-s) (-t) h1 h2 (by omega) (by omega) (by rw [Int.mul_neg, Int.mul_neg]; omega)
  · have := key (-u) (-v) s t (by omega) (by omega) h3 h4 (by rw [Int.neg_mul, Int.neg_mul]; omega)
    omega
  · have := key (-u) (-v) (-s) (-t) (by omega) (by omega) (by omega) (by omega) (by rw [Int.neg_mul_neg, Int.neg_mul_neg]; omega)
    omega
theorem on_box {c d p : Pp} (h : on2 c d p = true) : area c.1 c.2 d.1 d.2 p.1 p.2 = 0 ∧ (min c.1 d.1 ≤ p.1 ∧ p.1 ≤ max c.1 d.1) ∧ min c.2 d.2 ≤ p.2 ∧ p.2 ≤ max c.2 d.2 := by
  unfold on2 onP inBox ovl at h
  simp only [Bool.and_eq_true, decide_eq_true_eq, beq_iff_eq] at h
  exact ⟨h.1, by omega, by omega⟩
theorem on_side {a b c d p : Pp} (h : on2 c d p = true) (hp : area a.1 a.2 b.1 b.2 p.1 p.2 = 0) : ¬ 0 < tr2 a b c * tr2 a b d := by
  intro hm
  obtain ⟨h0, hx, hy⟩ := on_box h
  have l1 := side_lin a b c d p
  have l2 := side_linY a b c d p
  rw [hp, h0, Int.mul_zero, Int.mul_zero, Int.add_zero] at l1 l2
  have hs := sgn_mul hm
  obtain ⟨e1, e2⟩ := two_none (by omega) hs l1.symm
  obtain ⟨e3, e4⟩ := two_none (by omega) hs l2.symm
  have x1 : c.1 = p.1 := by omega
  have x2 : c.2 = p.2 := by omega
  rw [x1, x2] at hs
  omega
theorem off_side {a b c d : Pp} (h : tr2 a b c * tr2 a b d ≠ 0) : on2 a b c = false ∧ on2 a b d = false := by
  constructor
  · cases g : on2 a b c with
    | false => rfl
    | true => exact absurd (show tr2 a b c * tr2 a b d = 0 by unfold tr2; rw [(on_box g).1]; simp [sgn]) h
  · cases g : on2 a b d with
    | false => rfl
    | true => exact absurd (show tr2 a b c * tr2 a b d = 0 by unfold tr2; rw [(on_box g).1]; simp [sgn]) h
theorem tr_same (a c : Pp) : tr2 a a c = 0 := by
  unfold tr2 area sgn
  simp

/-- What the ends that are points of both say, of segments that do not cross. -/
def byEnds (a b c d : Pp) (l : List Pp) : Int :=
  match l with
  | [] => 0
  | [p] => if (eqp p a || eqp p b) && (eqp p c || eqp p d) then 1 else 2
  | _ => 4
def relE (a b c d : Pp) : Int :=
  if 0 < tr2 a b c * tr2 a b d ∨ 0 < tr2 c d a * tr2 c d b then 0
  else if tr2 a b c * tr2 a b d < 0 ∧ tr2 c d a * tr2 c d b < 0 then 3
  else byEnds a b c d (shL a b c d [a, b, c, d])
theorem relE_side {a b c d : Pp} (h : 0 < tr2 a b c * tr2 a b d) : relP a b c d = 0 := by
  obtain ⟨h1, h2⟩ := off_side (a := a) (b := b) (c := c) (d := d) (by omega)
  have h3 : on2 c d a = false := by
    cases g : on2 c d a with
    | false => rfl
    | true => exact absurd h (on_side g (area_aba _ _ _ _))
  have h4 : on2 c d b = false := by
    cases g : on2 c d b with
    | false => rfl
    | true => exact absurd h (on_side g (area_abb _ _ _ _))
  have h5 : crs a b c d = false := by
    unfold crs
    rw [show decide (tr2 a b c * tr2 a b d < 0) = false from decide_eq_false (by omega)]
    simp
  unfold relP
  rw [h1, h2, h3, h4, h5]
  simp [relB]
theorem relE_eq (a b c d : Pp) : relE a b c d = relP a b c d := by
  unfold relE
  split
  · rename_i h
    rcases h with h | h
    · exact (relE_side h).symm
    · rw [← relP_cd]
      exact (relE_side h).symm
  · split
    · rename_i h
      obtain ⟨h1, h2⟩ := off_side (a := a) (b := b) (c := c) (d := d) (by omega)
      obtain ⟨h3, h4⟩ := off_side (a := c) (b := d) (c := a) (d := b) (by omega)
      have h5 : crs a b c d = true := by
        unfold crs
        rw [decide_eq_true h.1, decide_eq_true h.2]
        have g1 : eqp a b = false := by
          cases g : eqp a b with
          | false => rfl
          | true => rw [eqp_iff] at g; subst g; rw [tr_same] at h; simp at h
        have g2 : eqp c d = false := by
          cases g : eqp c d with
          | false => rfl
          | true => rw [eqp_iff] at g; subst g; rw [tr_same c] at h; simp at h
        rw [g1, g2]
        rfl
      unfold relP
      rw [h1, h2, h3, h4, h5]
      simp [relB]
    · rename_i h
      rw [← relL_eq]
      have h5 : crs a b c d = false := by
        unfold crs
        cases g1 : decide (tr2 a b c * tr2 a b d < 0) with
        | false => simp
        | true =>
          cases g2 : decide (tr2 c d a * tr2 c d b < 0) with
          | false => simp
          | true => exact absurd ⟨of_decide_eq_true g1, of_decide_eq_true g2⟩ h
      unfold relL byEnds
      rw [h5]
      rfl

theorem relB_one : ∀ sa sb sc sd ab ac ad bc bd cd x : Bool, flagsOk sa sb sc sd ab ac ad bc bd cd = true → relB sa sb sc sd ab ac ad bc bd cd x = 1 → (ac || ad) = false → sa = false ∧ sb = true := by decide +kernel
theorem shAdd_head {a b c d p : Pp} {l : List Pp} (q : Pp) (h : l[0]? = some p) : (shAdd a b c d l q)[0]? = some p := by
  unfold shAdd
  split
  · cases l with
    | nil => simp at h
    | cons r l => simpa using h
  · exact h
/-- The first of the ends that are points of both, where one end alone is. -/
theorem shL_first {a b c d : Pp} (h : relP a b c d = 1) : (shL a b c d [a, b, c, d])[0]? = some (if eqp a c || eqp a d then a else b) := by
  have s1 : shS a b c d a = on2 c d a := by unfold shS; rw [on_left]; rfl
  have s2 : shS a b c d b = on2 c d b := by unfold shS; rw [on_right]; rfl
  unfold shL
  simp only [List.foldl_cons, List.foldl_nil]
  apply shAdd_head
  apply shAdd_head
  cases g : eqp a c || eqp a d with
  | true =>
    rw [if_pos rfl]
    apply shAdd_head
    have : on2 c d a = true := by
      rw [Bool.or_eq_true, eqp_iff, eqp_iff] at g
      rcases g with rfl | rfl
      · exact on_left _ _
      · exact on_right _ _
    unfold shAdd
    rw [s1, this]
    rfl
  | false =>
    rw [if_neg (by decide)]
    obtain ⟨h1, h2⟩ := relB_one _ _ _ _ _ _ _ _ _ _ _ (flags_ok a b c d) h g
    have : shAdd a b c d [] a = [] := by unfold shAdd; rw [s1, h1]; rfl
    rw [this]
    unfold shAdd
    rw [s2, h2]
    rfl
end Go.Proofs.Ytlnjjkgjknheiaa
