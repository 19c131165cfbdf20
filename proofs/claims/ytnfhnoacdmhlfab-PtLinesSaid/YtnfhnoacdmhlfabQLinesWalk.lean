/-
  PtLines: what exact numbers say of a point on a line, and the walk with it.
-/
import Derived.Test.YtnfhnoacdmhlfabQLines
namespace Go.Proofs.Ytnfhnoacdmhlfab
open Go.RowKit Go.Sort

theorem tmod_of_pos {x m : Int} (hx : 0 ≤ x) (hm : 0 < m) : 0 ≤ x.tmod m ∧ x.tmod m < m := ⟨Int.tmod_nonneg m hx, Int.tmod_lt_of_pos x hm⟩
theorem tmod_both (x : Int) {m : Int} (hm : 0 < m) : -m < x.tmod m ∧ x.tmod m < m := ⟨Int.lt_tmod_of_pos x hm, Int.tmod_lt_of_pos x hm⟩
theorem i64_and255 (n : Int) : bits .and .i64 n 255 = n % 256 := by
  have h31 : (BitVec.ofInt 64 255).toNat = 2 ^ 8 - 1 := by decide
  have key : (BitVec.ofInt 64 n &&& BitVec.ofInt 64 255).toNat = (n % ((2 ^ 64 : Nat) : Int)).toNat % 2 ^ 8 := by
    rw [BitVec.toNat_and, BitVec.toNat_ofInt, h31, Nat.and_two_pow_sub_one_eq_mod]
  show IntKind.i64.wrap ((BitVec.ofInt 64 n &&& BitVec.ofInt 64 255).toNat : Nat) = n % 256
  rw [key, IntKind.wrap_i64]
  omega
theorem mul_small {n d : Int} (hn : 0 ≤ n ∧ n ≤ 100) (hd : -101 < d ∧ d < 101) : -10000 ≤ n * d ∧ n * d ≤ 10000 := by
  have h := Int.natAbs_mul n d
  have h1 : n.natAbs ≤ 100 := by omega
  have h2 : d.natAbs ≤ 100 := by omega
  have h3 := Nat.mul_le_mul h1 h2
  omega
theorem mul_btw {k n d : Int} (hk : 0 ≤ k ∧ k ≤ n) : (0 ≤ k * d ∧ k * d ≤ n * d) ∨ (n * d ≤ k * d ∧ k * d ≤ 0) := by
  rcases Int.le_total 0 d with h | h
  · exact .inl ⟨Int.mul_nonneg hk.1 h, Int.mul_le_mul_of_nonneg_right hk.2 h⟩
  · exact .inr ⟨Int.mul_le_mul_of_nonpos_right hk.2 h, Int.mul_nonpos_of_nonneg_of_nonpos hk.1 h⟩
theorem sq_pos {d : Int} (h : d ≠ 0) : 1 ≤ d * d := by
  rcases (show 1 ≤ d ∨ 1 ≤ -d by omega) with g | g
  · have := Int.mul_le_mul_of_nonneg_right g (show (0 : Int) ≤ d by omega); omega
  · have := Int.mul_le_mul_of_nonneg_right g (show (0 : Int) ≤ -d by omega); rw [Int.neg_mul_neg] at this; omega
theorem sq_nonneg (d : Int) : 0 ≤ d * d := by
  by_cases h : d = 0
  · subst h; decide
  · have := sq_pos h; omega

theorem off_left (a b : Int) : a + b - a = b := by omega
theorem line_area (px py n d e k : Int) : area px py (px + n * d) (py + n * e) (px + k * d) (py + k * e) = 0 := by
  unfold area
  rw [off_left, off_left, off_left, off_left, show n * d * (k * e) = n * e * (k * d) by ac_rfl]
  omega
theorem line_off (px py n d e k : Int) : area px py (px + n * d) (py + n * e) (px + k * d - e) (py + k * e + d) = n * (d * d) + n * (e * e) := by
  unfold area
  rw [off_left, off_left, show px + k * d - e - px = k * d - e by omega, show py + k * e + d - py = k * e + d by omega, Int.mul_add, Int.mul_sub, show n * d * (k * e) = n * e * (k * d) by ac_rfl, Int.mul_assoc n d d, Int.mul_assoc n e e]
  omega
theorem line_pos {n d e : Int} (hn : 1 ≤ n) (hz : ¬ (d = 0 ∧ e = 0)) : 0 < n * (d * d) + n * (e * e) := by
  have h1 := Int.mul_le_mul_of_nonneg_right hn (sq_nonneg d)
  have h2 := Int.mul_le_mul_of_nonneg_right hn (sq_nonneg e)
  have h3 := sq_nonneg d
  have h4 := sq_nonneg e
  rcases (show d ≠ 0 ∨ e ≠ 0 by omega) with h | h
  · have := sq_pos h; omega
  · have := sq_pos h; omega
theorem line_in {px py n d e k : Int} (hk : 0 ≤ k ∧ k ≤ n) : inBox px py (px + n * d) (py + n * e) (px + k * d) (py + k * e) = true := by
  have h1 := mul_btw (d := d) hk
  have h2 := mul_btw (d := e) hk
  unfold inBox
  rw [ovl_true (by omega), ovl_true (by omega)]
  rfl
theorem line_on {px py n d e k : Int} (hk : 0 ≤ k ∧ k ≤ n) : onP px py (px + n * d) (py + n * e) (px + k * d) (py + k * e) = true := by
  unfold onP
  rw [line_area, line_in hk]
  rfl
theorem line_notOn {px py n d e k : Int} (hn : 1 ≤ n) (hz : ¬ (d = 0 ∧ e = 0)) : onP px py (px + n * d) (py + n * e) (px + k * d - e) (py + k * e + d) = false := by
  unfold onP
  have h := line_pos hn hz
  rw [line_off]
  have : (n * (d * d) + n * (e * e) == 0) = false := by rw [beq_eq_false_iff_ne]; omega
  rw [this]
  rfl
theorem line_turn {px py n d e k : Int} (hn : 1 ≤ n) (hz : ¬ (d = 0 ∧ e = 0)) : sgn (area px py (px + n * d) (py + n * e) (px + k * d - e) (py + k * e + d)) = 1 := by
  have h := line_pos hn hz
  rw [line_off]
  unfold sgn
  rw [if_neg (by omega), if_pos h]
theorem mul_left_eq {k n d : Int} (h : k * d = n * d) (hd : d ≠ 0) : k = n := Int.eq_of_mul_eq_mul_right hd h
theorem line_within {px py n d e k : Int} (hk : 0 ≤ k ∧ k ≤ n) (hz : ¬ (d = 0 ∧ e = 0)) : withinP px py (px + n * d) (py + n * e) (px + k * d) (py + k * e) = (decide (0 < k) && decide (k < n)) := by
  unfold withinP
  rw [line_on hk, Bool.true_and]
  have e1 : (px + k * d == px && py + k * e == py) = decide (k = 0) := by
    rw [Bool.eq_iff_iff, Bool.and_eq_true, beq_iff_eq, beq_iff_eq, decide_eq_true_eq]
    constructor
    · rintro ⟨h1, h2⟩
      rcases (show d ≠ 0 ∨ e ≠ 0 by omega) with h | h
      · exact mul_left_eq (n := 0) (by rw [Int.zero_mul]; omega) h
      · exact mul_left_eq (n := 0) (by rw [Int.zero_mul]; omega) h
    · rintro rfl
      rw [Int.zero_mul, Int.zero_mul]
      omega
  have e2 : (px + k * d == px + n * d && py + k * e == py + n * e) = decide (k = n) := by
    rw [Bool.eq_iff_iff, Bool.and_eq_true, beq_iff_eq, beq_iff_eq, decide_eq_true_eq]
    constructor
    · rintro ⟨h1, h2⟩
      rcases (show d ≠ 0 ∨ e ≠ 0 by omega) with h | h
      · exact mul_left_eq (by omega) h
      · exact mul_left_eq (by omega) h
    · rintro rfl
      exact ⟨rfl, rfl⟩
  rw [e1, e2, Bool.eq_iff_iff]
  simp only [Bool.and_eq_true, Bool.not_eq_true', decide_eq_true_eq, decide_eq_false_iff_not]
  omega
theorem line_zero (px py n k : Int) (hk : 0 ≤ k ∧ k ≤ n) : withinP px py (px + n * 0) (py + n * 0) (px + k * 0) (py + k * 0) = false := by
  unfold withinP
  rw [line_on hk, Int.mul_zero, Int.mul_zero, Int.add_zero, Int.add_zero]
  simp

theorem ptLines_walk (w : World) (px py : Int) (_ : -9223372036854775808 ≤ px ∧ px ≤ 9223372036854775807) (_ : -9223372036854775808 ≤ py ∧ py ≤ 9223372036854775807) (dx : Int) (_ : -9223372036854775808 ≤ dx) (_ : dx ≤ 9223372036854775807)
    (dy : Int) (_ : -9223372036854775808 ≤ dy) (_ : dy ≤ 9223372036854775807) (n : Int) (_ : -9223372036854775808 ≤ n) (_ : n ≤ 9223372036854775807) (k : Int) (_ : -9223372036854775808 ≤ k) (_ : k ≤ 9223372036854775807) :
    Calls Try.prog 5 #[pv px py, .int .i64 dx, .int .i64 dy, .int .i64 n, .int .i64 k] w fun e w' => e = .returned (.bool true) ∧ Below w.heap.size w w' := by
  have bPX := tmod_both px (m := 1000) (by omega)
  have bPY := tmod_both py (m := 1000) (by omega)
  have bDX := tmod_both dx (m := 101) (by omega)
  have bDY := tmod_both dy (m := 101) (by omega)
  have hE := i64_and255 n
  have hG := i64_and255 k
  have bF := tmod_of_pos (x := n % 256) (m := 100) (by omega) (by omega)
  obtain ⟨PX, hPX⟩ : ∃ PX, px.tmod 1000 = PX := ⟨_, rfl⟩
  obtain ⟨PY, hPY⟩ : ∃ PX, py.tmod 1000 = PX := ⟨_, rfl⟩
  obtain ⟨DX, hDX⟩ : ∃ PX, dx.tmod 101 = PX := ⟨_, rfl⟩
  obtain ⟨DY, hDY⟩ : ∃ PX, dy.tmod 101 = PX := ⟨_, rfl⟩
  obtain ⟨F, hF⟩ : ∃ PX, (n % 256).tmod 100 = PX := ⟨_, rfl⟩
  rw [hPX] at bPX; rw [hPY] at bPY; rw [hDX] at bDX; rw [hDY] at bDY; rw [hF] at bF
  obtain ⟨NN, hNN⟩ : ∃ NN, F + 1 = NN := ⟨_, rfl⟩
  have bK := tmod_of_pos (x := k % 256) (m := NN + 1) (by omega) (by omega)
  obtain ⟨KK, hKK⟩ : ∃ PX, (k % 256).tmod (NN + 1) = PX := ⟨_, rfl⟩
  rw [hKK] at bK
  have hk : 0 ≤ KK ∧ KK ≤ NN := by omega
  have bnx := mul_small (n := NN) (d := DX) (by omega) bDX
  have bny := mul_small (n := NN) (d := DY) (by omega) bDY
  have bkx := mul_small (n := KK) (d := DX) (by omega) bDX
  have bky := mul_small (n := KK) (d := DY) (by omega) bDY
  have hp1 := near_in (x := PX) (by omega) (by omega)
  have hp2 := near_in (x := PY) (by omega) (by omega)
  have hq1 := near_in (x := PX + NN * DX) (by omega) (by omega)
  have hq2 := near_in (x := PY + NN * DY) (by omega) (by omega)
  have hm1 := near_in (x := PX + KK * DX) (by omega) (by omega)
  have hm2 := near_in (x := PY + KK * DY) (by omega) (by omega)
  have ho1 := near_in (x := PX + KK * DX - DY) (by omega) (by omega)
  have ho2 := near_in (x := PY + KK * DY + DX) (by omega) (by omega)
  have HO1 := hid (fun W => on_any PX PY (PX + NN * DX) (PY + NN * DY) (PX + KK * DX) (PY + KK * DY) W)
  rw [hp1, hp2, hq1, hq2, hm1, hm2, line_on hk] at HO1
  have HW1 := hid (fun W => within_any PX PY (PX + NN * DX) (PY + NN * DY) (PX + KK * DX) (PY + KK * DY) W)
  rw [hp1, hp2, hq1, hq2, hm1, hm2] at HW1
  by_cases hz : DX = 0 ∧ DY = 0
  · have hw : withinP PX PY (PX + NN * DX) (PY + NN * DY) (PX + KK * DX) (PY + KK * DY) = false := by rw [hz.1, hz.2]; exact line_zero PX PY NN KK hk
    rw [hw] at HW1
    exact ptLines_zero w px py dx dy n k PX PY DX DY _ F _ KK NN _ _ _ _ hPX hPY hDX hDY hE hF hNN hG hKK rfl rfl rfl rfl bPX bPY bDX bDY bF (by omega) hk bnx bny bkx bky (by simp [hz.1]) (by simp [hz.2]) HO1 HW1
  · rw [line_within hk hz] at HW1
    have HO2 := hid (fun W => on_any PX PY (PX + NN * DX) (PY + NN * DY) (PX + KK * DX - DY) (PY + KK * DY + DX) W)
    rw [hp1, hp2, hq1, hq2, ho1, ho2, line_notOn (by omega) hz] at HO2
    have HT := hid (fun W => turn_any PX PY (PX + NN * DX) (PY + NN * DY) (PX + KK * DX - DY) (PY + KK * DY + DX) W)
    rw [hp1, hp2, hq1, hq2, ho1, ho2, line_turn (by omega) hz] at HT
    exact ptLines_some w px py dx dy n k PX PY DX DY _ F _ KK NN _ _ _ _ hPX hPY hDX hDY hE hF hNN hG hKK rfl rfl rfl rfl bPX bPY bDX bDY bF (by omega) hk bnx bny bkx bky hz HO1 HW1 HO2 HT
end Go.Proofs.Ytnfhnoacdmhlfab
