/-
  What exact numbers say of a point on a line.
-/
import Derived.Test.YthalnfnfnaknnaaQOk
namespace Go.Proofs.Ythalnfnfnaknnaa
open Go.RowKit Go.Sort

theorem tmod_of_pos {x m : Int} (hx : 0 ≤ x) (hm : 0 < m) : 0 ≤ x.tmod m ∧ x.tmod m < m := ⟨Int.tmod_nonneg m hx, Int.tmod_lt_of_pos x hm⟩
theorem tmod_both (x : Int) {m : Int} (hm : 0 < m) : -m < x.tmod m ∧ x.tmod m < m := ⟨Int.lt_tmod_of_pos x hm, Int.tmod_lt_of_pos x hm⟩
theorem i64_and255 (n : Int) : bits .and .i64 n 255 = n % 256 := by
  have h31 : (BitVec.ofInt 64 255).toNat = 2 ^ 8 - 1 := by decide
  have key : (BitVec.ofInt 64 n &&& BitVec.ofInt 64 255).toNat = (n % ((2 ^ 64 : Nat) : Int)).toNat % 2 ^ 8 := by
    rw [BitVec.toNat_and, BitVec.toNat_ofInt, h31, Nat.and_two_pow_sub_one_eq_mod]
  show IntKind.i64.wrap ((BitVec.ofInt 64 n &&& BitVec.ofInt 64 255).toNat : Nat) = n % 256
  rw [key, IntKind.wrap_i64]
  omega
theorem mul_small {n d : Int} (hn : 0 ≤ n ∧ n ≤ 100) (hd : -101 < d ∧ d < 101) : -10000 ≤ n * d ∧ n * d ≤ 10000 := by
  have h := Int.natAbs_mul n d
  have h1 : n.natAbs ≤ 100 := by omega
  have h2 : d.natAbs ≤ 100 := by omega
  have h3 := Nat.mul_le_mul h1 h2
  omega
theorem mul_btw {k n d : Int} (hk : 0 ≤ k ∧ k ≤ n) : (0 ≤ k * d ∧ k * d ≤ n * d) ∨ (n * d ≤ k * d ∧ k * d ≤ 0) := by
  rcases Int.le_total 0 d with h | h
  · exact .inl ⟨Int.mul_nonneg hk.1 h, Int.mul_le_mul_of_nonneg_right hk.2 h⟩
  · exact .inr ⟨Int.mul_le_mul_of_nonpos_right hk.2 h, Int.mul_nonpos_of_nonneg_of_nonpos hk.1 h⟩
theorem sq_pos {d : Int} (h : d ≠ 0) : 1 ≤ d * d := by
  rcases (show 1 ≤ d ∨ 1 ≤ -d by omega) with g | g
  · have := Int.mul_le_mul_of_nonneg_right g (show (0 : Int) ≤ d by omega); omega
  · have := Int.mul_le_mul_of_nonneg_right g (show (0 : Int) ≤ -d by omega); rw [Int.neg_mul_neg] at this; omega
theorem sq_nonneg (d : Int) : 0 ≤ d * d := by
  by_cases h : d = 0
  · subst h; decide
  · have := sq_pos h; omega

theorem off_left (a b : Int) : a + b - a = b := by omega
theorem line_area (px py n d e k : Int) : area px py (px + n * d) (py + n * e) (px + k * d) (py + k * e) = 0 := by
  unfold area
  rw [off_left, off_left, off_left, off_left, show n * d * (k * e) = n * e * (k * d) by ac_rfl]
  omega
theorem line_off (px py n d e k : Int) : area px py (px + n * d) (py + n * e) (px + k * d - e) (py + k * e + d) = n * (d * d) + n * (e * e) := by
  unfold area
  rw [off_left, off_left, show px + k * d - e - px = k * d - e by omega, show py + k * e + d - py = k * e + d by omega, Int.mul_add, Int.mul_sub, show n * d * (k * e) = n * e * (k * d) by ac_rfl, Int.mul_assoc n d d, Int.mul_assoc n e e]
  omega
theorem line_pos {n d e : Int} (hn : 1 ≤ n) (hz : ¬ (d = 0 ∧ e = 0)) : 0 < n * (d * d) + n * (e * e) := by
  have h1 := Int.mul_le_mul_of_nonneg_right hn (sq_nonneg d)
  have h2 := Int.mul_le_mul_of_nonneg_right hn (sq_nonneg e)
  have h3 := sq_nonneg d
  have h4 := sq_nonneg e
  rcases (show d ≠ 0 ∨ e ≠ 0 by omega) with h | h
  · have := sq_pos h; omega
  · have := sq_pos h; omega
theorem line_in {px py n d e k : Int} (hk : 0 ≤ k ∧ k ≤ n) : inBox px py (px + n * d) (py + n * e) (px + k * d) (py + k * e) = true := by
  have h1 := mul_btw (d := d) hk
  have h2 := mul_btw (d := e) hk
  unfold inBox
  rw [ovl_true (by omega), ovl_true (by omega)]
  rfl
theorem line_on {px py n d e k : Int} (hk : 0 ≤ k ∧ k ≤ n) : onP px py (px + n * d) (py + n * e) (px + k * d) (py + k * e) = true := by
  unfold onP
  rw [line_area, line_in hk]
  rfl
theorem line_notOn {px py n d e k : Int} (hn : 1 ≤ n) (hz : ¬ (d = 0 ∧ e = 0)) : onP px py (px + n * d) (py + n * e) (px + k * d - e) (py + k * e + d) = false := by
  unfold onP
  have h := line_pos hn hz
  rw [line_off]
  have : (n * (d * d) + n * (e * e) == 0) = false := by rw [beq_eq_false_iff_ne]; omega
  rw [this]
  rfl
theorem line_turn {px py n d e k : Int} (hn : 1 ≤ n) (hz : ¬ (d = 0 ∧ e = 0)) : sgn (area px py (px + n * d) (py + n * e) (px + k * d - e) (py + k * e + d)) = 1 := by
  have h := line_pos hn hz
  rw [line_off]
  unfold sgn
  rw [if_neg (by omega), if_pos h]
theorem mul_left_eq {k n d : Int} (h : k * d = n * d) (hd : d ≠ 0) : k = n := Int.eq_of_mul_eq_mul_right hd h
theorem line_within {px py n d e k : Int} (hk : 0 ≤ k ∧ k ≤ n) (hz : ¬ (d = 0 ∧ e = 0)) : withinP px py (px + n * d) (py + n * e) (px + k * d) (py + k * e) = (decide (0 < k) && decide (k < n)) := by
  unfold withinP
  rw [line_on hk, Bool.true_and]
  have e1 : (px + k * d == px && py + k * e == py) = decide (k = 0) := by
    rw [Bool.eq_iff_iff, Bool.and_eq_true, beq_iff_eq, beq_iff_eq, decide_eq_true_eq]
    constructor
    · rintro ⟨h1, h2⟩
      rcases (show d ≠ 0 ∨ e ≠ 0 by omega) with h | h
      · exact mul_left_eq (n := 0) (by rw [Int.zero_mul]; omega) h
      · exact mul_left_eq (n := 0) (by rw [Int.zero_mul]; omega) h
    · rintro rfl
      rw [Int.zero_mul, Int.zero_mul]
      omega
  have e2 : (px + k * d == px + n * d && py + k * e == py + n * e) = decide (k = n) := by
    rw [Bool.eq_iff_iff, Bool.and_eq_true, beq_iff_eq, beq_iff_eq, decide_eq_true_eq]
    constructor
    · rintro ⟨h1, h2⟩
      rcases (show d ≠ 0 ∨ e ≠ 0 by omega) with h | h
      · exact mul_left_eq (by omega) h
      · exact mul_left_eq (by omega) h
    · rintro rfl
      exact ⟨rfl, rfl⟩
  rw [e1, e2, Bool.eq_iff_iff]
  simp only [Bool.and_eq_true, Bool.not_eq_true', decide_eq_true_eq, decide_eq_false_iff_not]
  omega
theorem line_zero (px py n k : Int) (hk : 0 ≤ k ∧ k ≤ n) : withinP px py (px + n * 0) (py + n * 0) (px + k * 0) (py + k * 0) = false := by
  unfold withinP
  rw [line_on hk, Int.mul_zero, Int.mul_zero, Int.add_zero, Int.add_zero]
  simp
end Go.Proofs.Ythalnfnfnaknnaa
