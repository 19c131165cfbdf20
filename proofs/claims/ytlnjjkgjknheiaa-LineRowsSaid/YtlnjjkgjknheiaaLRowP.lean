/-
  Level lines and upright ones, plain: which are apart.
-/
import Derived.Test.YtlnjjkgjknheiaaLCutsP
import Derived.Test.YtlnjjkgjknheiaaSLevel
namespace Go.Proofs.Ytlnjjkgjknheiaa

theorem ok_two {p q : Pp} (hp : clP p = p) (hq : clP q = q) (hne : p ≠ q) : okL [p, q] = true := by
  have e : okL [p, q] = ((okP p.1 p.2 && (okP q.1 q.2 && true)) && ((!eqp (clP p) (clP q) && true) && ((true || sgR [p, q] [p, q] 0 0 == wantL [p, q] 0 0) && true && true))) := rfl
  have h1 : okP p.1 p.2 = true := by
    unfold okP
    have a := congrArg Prod.fst hp
    have b := congrArg Prod.snd hp
    simp only [clP] at a b
    rw [a, b]
    simp
  have h2 : okP q.1 q.2 = true := by
    unfold okP
    have a := congrArg Prod.fst hq
    have b := congrArg Prod.snd hq
    simp only [clP] at a b
    rw [a, b]
    simp
  have h3 : eqp p q = false := by
    cases h : eqp p q with
    | false => rfl
    | true => exact absurd (eqp_iff.1 h) hne
  rw [e, h1, h2, hp, hq, h3]
  rfl
theorem apart_two {a b c d : Pp} (ha : clP a = a) (hb : clP b = b) (hc : clP c = c) (hd : clP d = d) :
    apartL [a, b] [c, d] = (relP a b c d == 0 || (relP a b c d == 1 && (eqp a (shdP a b c d).1 || eqp b (shdP a b c d).1) && (eqp c (shdP a b c d).1 || eqp d (shdP a b c d).1))) := by
  have e : apartL [a, b] [c, d] = ((relP (clP a) (clP b) (clP c) (clP d) == 0 || (relP (clP a) (clP b) (clP c) (clP d) == 1 && (eqp a (shdP (clP a) (clP b) (clP c) (clP d)).1 || eqp b (shdP (clP a) (clP b) (clP c) (clP d)).1) && (eqp c (shdP (clP a) (clP b) (clP c) (clP d)).1 || eqp d (shdP (clP a) (clP b) (clP c) (clP d)).1))) && true && true) := rfl
  rw [e, ha, hb, hc, hd, Bool.and_true, Bool.and_true]
/-- Two level lines, one beside the other. -/
theorem rows_apart {L y z : Int} (hL : 0 < L) (hyz : y ≠ z) : relP (0, y) (L, y) (0, z) (L, z) = 0 := by
  have e1 : on2 (0, z) (L, z) (0, y) = false := b_false (on_level (by omega)) (by omega)
  have e2 : on2 (0, z) (L, z) (L, y) = false := b_false (on_level (by omega)) (by omega)
  have e3 : on2 (0, y) (L, y) (0, z) = false := b_false (on_level (by omega)) (by omega)
  have e4 : on2 (0, y) (L, y) (L, z) = false := b_false (on_level (by omega)) (by omega)
  have e5 : crs (0, y) (L, y) (0, z) (L, z) = false := by
    have h : tr2 (0, y) (L, y) (0, z) = tr2 (0, y) (L, y) (L, z) := by
      unfold tr2
      dsimp only
      rw [area_level, area_level]
    unfold crs
    rw [h]
    have := sq_nonneg (tr2 (0, y) (L, y) (L, z))
    rw [show decide (tr2 (0, y) (L, y) (L, z) * tr2 (0, y) (L, y) (L, z) < 0) = false from decide_eq_false (by omega)]
    simp
  unfold relP
  rw [e1, e2, e3, e4, e5]
  rfl
/-- An upright line across a level one. -/
theorem up_meets {L x y : Int} (hL : 0 < L) (h0 : 0 ≤ x) (h1 : x ≤ L) : relP (0, y) (L, y) (x, y - 1) (x, y + 1) = 2 ∨ relP (0, y) (L, y) (x, y - 1) (x, y + 1) = 3 := by
  have e1 : on2 (x, y - 1) (x, y + 1) (0, y) = decide (x = 0) := by
    rw [Bool.eq_iff_iff, on_upright (by omega), decide_eq_true_eq]
    omega
  have e2 : on2 (x, y - 1) (x, y + 1) (L, y) = decide (x = L) := by
    rw [Bool.eq_iff_iff, on_upright (by omega), decide_eq_true_eq]
    omega
  have e3 : on2 (0, y) (L, y) (x, y - 1) = false := b_false (on_level (by omega)) (by omega)
  have e4 : on2 (0, y) (L, y) (x, y + 1) = false := b_false (on_level (by omega)) (by omega)
  have q1 : eqp (0, y) (L, y) = false := b_false (eqp_mk _ _ _ _) (by omega)
  have q2 : eqp (0, y) (x, y - 1) = false := b_false (eqp_mk _ _ _ _) (by omega)
  have q3 : eqp (0, y) (x, y + 1) = false := b_false (eqp_mk _ _ _ _) (by omega)
  have q4 : eqp (L, y) (x, y - 1) = false := b_false (eqp_mk _ _ _ _) (by omega)
  have q5 : eqp (L, y) (x, y + 1) = false := b_false (eqp_mk _ _ _ _) (by omega)
  have q6 : eqp (x, y - 1) (x, y + 1) = false := b_false (eqp_mk _ _ _ _) (by omega)
  unfold relP
  rw [e1, e2, e3, e4, q1, q2, q3, q4, q5, q6]
  by_cases k0 : x = 0
  · rw [decide_eq_true k0, decide_eq_false (show ¬ x = L by omega)]
    exact .inl rfl
  · by_cases k1 : x = L
    · rw [decide_eq_false k0, decide_eq_true k1]
      exact .inl rfl
    · have e5 : crs (0, y) (L, y) (x, y - 1) (x, y + 1) = true := by
        have t1 : tr2 (0, y) (L, y) (x, y - 1) = -1 := by
          unfold tr2
          dsimp only
          rw [area_level, show y - 1 - y = -1 by omega]
          unfold sgn
          rw [if_pos (by omega)]
        have t2 : tr2 (0, y) (L, y) (x, y + 1) = 1 := by
          unfold tr2
          dsimp only
          rw [area_level, show y + 1 - y = 1 by omega]
          unfold sgn
          rw [if_neg (by omega), if_pos (by omega)]
        have t3 : tr2 (x, y - 1) (x, y + 1) (0, y) = 1 := by
          unfold tr2
          dsimp only
          rw [area_upright, show y + 1 - (y - 1) = 2 by omega]
          unfold sgn
          rw [if_neg (by omega), if_pos (by omega)]
        have t4 : tr2 (x, y - 1) (x, y + 1) (L, y) = -1 := by
          unfold tr2
          dsimp only
          rw [area_upright, show y + 1 - (y - 1) = 2 by omega]
          unfold sgn
          rw [if_pos (by omega)]
        unfold crs
        rw [q1, q6, t1, t2, t3, t4]
        rfl
      rw [decide_eq_false k0, decide_eq_false k1, e5]
      exact .inr rfl
/-- An upright line that ends on a level one. -/
theorem end_meets {L x y : Int} (hL : 0 < L) (h0 : 0 ≤ x) (h1 : x ≤ L) : relP (0, y) (L, y) (x, y) (x, y + 1) = if x = 0 ∨ x = L then 1 else 2 := by
  have e1 : on2 (x, y) (x, y + 1) (0, y) = decide (x = 0) := by
    rw [Bool.eq_iff_iff, on_upright (by omega), decide_eq_true_eq]
    omega
  have e2 : on2 (x, y) (x, y + 1) (L, y) = decide (x = L) := by
    rw [Bool.eq_iff_iff, on_upright (by omega), decide_eq_true_eq]
    omega
  have e3 : on2 (0, y) (L, y) (x, y) = true := (on_level (by omega)).2 ⟨rfl, h0, h1⟩
  have e4 : on2 (0, y) (L, y) (x, y + 1) = false := b_false (on_level (by omega)) (by omega)
  have q1 : eqp (0, y) (L, y) = false := b_false (eqp_mk _ _ _ _) (by omega)
  have q2 : eqp (0, y) (x, y) = decide (x = 0) := by
    rw [Bool.eq_iff_iff, eqp_mk, decide_eq_true_eq]
    omega
  have q3 : eqp (0, y) (x, y + 1) = false := b_false (eqp_mk _ _ _ _) (by omega)
  have q4 : eqp (L, y) (x, y) = decide (x = L) := by
    rw [Bool.eq_iff_iff, eqp_mk, decide_eq_true_eq]
    omega
  have q5 : eqp (L, y) (x, y + 1) = false := b_false (eqp_mk _ _ _ _) (by omega)
  have q6 : eqp (x, y) (x, y + 1) = false := b_false (eqp_mk _ _ _ _) (by omega)
  unfold relP
  rw [e1, e2, e3, e4, q1, q2, q3, q4, q5, q6]
  by_cases k0 : x = 0
  · rw [decide_eq_true k0, decide_eq_false (show ¬ x = L by omega), if_pos (.inl k0)]
    rfl
  · by_cases k1 : x = L
    · rw [decide_eq_false k0, decide_eq_true k1, if_pos (.inr k1)]
      rfl
    · rw [decide_eq_false k0, decide_eq_false k1, if_neg (by omega)]
      rfl
theorem near_small {p : Pp} (h : -1000000 ≤ p.1 ∧ p.1 ≤ 1000000 ∧ -1000000 ≤ p.2 ∧ p.2 ≤ 1000000) : clP p = p := by
  unfold clP
  rw [near_in (by omega) (by omega), near_in (by omega) (by omega)]
def rowL (L y : Int) : List Pp := [(0, y), (L, y)]
def upL (x y : Int) : List Pp := [(x, y - 1), (x, y + 1)]
def endS (x y : Int) : List Pp := [(x, y), (x, y + 1)]
theorem rows_plain {L y z : Int} (hL : 0 < L) (hL2 : L ≤ 1000) (hy : 0 ≤ y ∧ y ≤ 1000) (hz : 0 ≤ z ∧ z ≤ 1000) (hyz : y ≠ z) : okL (rowL L y) = true ∧ okL (rowL L z) = true ∧ apartL (rowL L y) (rowL L z) = true := by
  have c1 : clP (0, y) = (0, y) := near_small (by dsimp only; omega)
  have c2 : clP (L, y) = (L, y) := near_small (by dsimp only; omega)
  have c3 : clP (0, z) = (0, z) := near_small (by dsimp only; omega)
  have c4 : clP (L, z) = (L, z) := near_small (by dsimp only; omega)
  have n : ∀ u : Int, ((0 : Int), u) ≠ (L, u) := fun u e => by injection e with e1 e2; omega
  refine ⟨ok_two c1 c2 (n y), ok_two c3 c4 (n z), ?_⟩
  unfold rowL
  rw [apart_two c1 c2 c3 c4, rows_apart hL hyz]
  rfl
theorem across_plain {L x y : Int} (hL : 0 < L) (hL2 : L ≤ 1000) (h0 : 0 ≤ x) (h1 : x ≤ L) (hy : 0 ≤ y ∧ y ≤ 1000) : okL (rowL L y) = true ∧ okL (upL x y) = true ∧ okL (endS x y) = true ∧ apartL (rowL L y) (upL x y) = false ∧ apartL (rowL L y) (endS x y) = decide (x = 0 ∨ x = L) := by
  have c1 : clP (0, y) = (0, y) := near_small (by dsimp only; omega)
  have c2 : clP (L, y) = (L, y) := near_small (by dsimp only; omega)
  have c3 : clP (x, y - 1) = (x, y - 1) := near_small (by dsimp only; omega)
  have c4 : clP (x, y + 1) = (x, y + 1) := near_small (by dsimp only; omega)
  have c5 : clP (x, y) = (x, y) := near_small (by dsimp only; omega)
  refine ⟨ok_two c1 c2 (fun e => by injection e with e1 e2; omega), ok_two c3 c4 (fun e => by injection e with e1 e2; omega), ok_two c5 c4 (fun e => by injection e with e1 e2; omega), ?_, ?_⟩
  · unfold rowL upL
    rw [apart_two c1 c2 c3 c4]
    rcases up_meets (y := y) hL h0 h1 with h | h <;> rw [h] <;> rfl
  · unfold rowL endS
    rw [apart_two c1 c2 c5 c4]
    have h := end_meets (y := y) hL h0 h1
    have hs : (shdP (0, y) (L, y) (x, y) (x, y + 1)).1 = if relP (0, y) (L, y) (x, y) (x, y + 1) = 1 then (if eqp (0, y) (x, y) || eqp (0, y) (x, y + 1) then (0, y) else (L, y)) else (0, 0) := by
      unfold shdP
      split <;> rfl
    by_cases hk : x = 0 ∨ x = L
    · rw [if_pos hk] at h
      rw [h, if_pos rfl] at hs
      rw [h, hs, decide_eq_true hk]
      by_cases k0 : x = 0
      · subst k0
        have q : eqp ((0 : Int), y) (0, y) = true := eqp_self _
        rw [q]
        simp [q]
      · have kL : x = L := by omega
        subst kL
        have q1 : eqp ((0 : Int), y) (x, y) = false := b_false (eqp_mk _ _ _ _) (by omega)
        have q2 : eqp ((0 : Int), y) (x, y + 1) = false := b_false (eqp_mk _ _ _ _) (by omega)
        have q3 : eqp (x, y) (x, y) = true := eqp_self _
        rw [q1, q2]
        simp [q3]
    · rw [if_neg hk] at h
      rw [h, decide_eq_false hk]
      rfl
end Go.Proofs.Ytlnjjkgjknheiaa
