/-
  Rings, as exact numbers tell of them: the area, what lies within; moved, begun elsewhere, the other way round, in two parts.
-/
import Derived.Test.YtepnjknblppfcaaRSum
import Derived.Test.YtepnjknblppfcaaSPlain
namespace Go.Proofs.Ytepnjknblppfcaa

def crossI (a b : Pp) : Int := a.1 * b.2 - b.1 * a.2
/-- Twice the area of the first n of the points q, the last joined to the first. -/
def areaR (n : Nat) (q : Nat → Pp) : Int := sN n fun i => crossI (q i) (q ((i + 1) % n))
def onR (n : Nat) (q : Nat → Pp) (p : Pp) : Int := cN n fun i => on2 (q i) (q ((i + 1) % n)) p
def rayR (n : Nat) (q : Nat → Pp) (p : Pp) : Int := cN n fun i => rayP (q i) (q ((i + 1) % n)) p
/-- On it, within it or outside of it. -/
def insideR (n : Nat) (q : Nat → Pp) (p : Pp) : Int := if 0 < onR n q p then 0 else if rayR n q p % 2 = 1 then 1 else -1

theorem crossI_anti (a b : Pp) : crossI b a = -crossI a b := by unfold crossI; omega
theorem crossI_self (a : Pp) : crossI a a = 0 := by unfold crossI; omega
theorem next_rot (i r n : Nat) : ((i + r) % n + 1) % n = ((i + 1) % n + r) % n := by
  rw [Nat.mod_add_mod, Nat.mod_add_mod, show i + r + 1 = i + 1 + r by omega]
/-- Begun elsewhere. -/
theorem areaR_rot (n r : Nat) (q : Nat → Pp) : areaR n (fun i => q ((i + r) % n)) = areaR n q := by
  unfold areaR
  rw [← sN_rot (fun i => crossI (q i) (q ((i + 1) % n))) n r]
  exact sN_congr fun i _ => by rw [next_rot]
theorem insideR_rot (n r : Nat) (q : Nat → Pp) (p : Pp) : insideR n (fun i => q ((i + r) % n)) p = insideR n q p := by
  have e1 : onR n (fun i => q ((i + r) % n)) p = onR n q p := by
    unfold onR
    rw [← cN_rot (fun i => on2 (q i) (q ((i + 1) % n)) p) n r]
    exact cN_congr fun i _ => by rw [next_rot]
  have e2 : rayR n (fun i => q ((i + r) % n)) p = rayR n q p := by
    unfold rayR
    rw [← cN_rot (fun i => rayP (q i) (q ((i + 1) % n)) p) n r]
    exact cN_congr fun i _ => by rw [next_rot]
  unfold insideR
  rw [e1, e2]
/-- Moved. -/
def mvP (x y : Int) (p : Pp) : Pp := (p.1 + x, p.2 + y)
theorem cross_move (x y : Int) (a b : Pp) : crossI (mvP x y a) (mvP x y b) = crossI a b + ((a.1 * y - x * a.2) - (b.1 * y - x * b.2)) := by
  unfold crossI mvP
  dsimp only
  rw [Int.add_mul, Int.add_mul, Int.mul_add, Int.mul_add, Int.mul_add, Int.mul_add]
  omega
theorem areaR_move (n : Nat) (q : Nat → Pp) (x y : Int) : areaR n (fun i => mvP x y (q i)) = areaR n q := by
  unfold areaR
  rw [sN_congr (h := fun i => crossI (q i) (q ((i + 1) % n)) + (((q i).1 * y - x * (q i).2) - ((q ((i + 1) % n)).1 * y - x * (q ((i + 1) % n)).2))) (fun i _ => cross_move x y _ _), sN_plus, sN_tele (fun i => (q i).1 * y - x * (q i).2)]
  omega
theorem tr_move (x y : Int) (a b p : Pp) : tr2 (mvP x y a) (mvP x y b) (mvP x y p) = tr2 a b p := by
  unfold tr2 mvP area
  dsimp only
  rw [show b.1 + x - (a.1 + x) = b.1 - a.1 by omega, show p.2 + y - (a.2 + y) = p.2 - a.2 by omega, show b.2 + y - (a.2 + y) = b.2 - a.2 by omega, show p.1 + x - (a.1 + x) = p.1 - a.1 by omega]
theorem ray_move (x y : Int) (a b p : Pp) : rayP (mvP x y a) (mvP x y b) (mvP x y p) = rayP a b p := by
  unfold rayP
  rw [tr_move, tr_move]
  have e1 : decide ((mvP x y p).2 < (mvP x y a).2) = decide (p.2 < a.2) := by
    rw [Bool.eq_iff_iff, decide_eq_true_eq, decide_eq_true_eq]
    unfold mvP
    dsimp only
    omega
  have e2 : decide ((mvP x y p).2 < (mvP x y b).2) = decide (p.2 < b.2) := by
    rw [Bool.eq_iff_iff, decide_eq_true_eq, decide_eq_true_eq]
    unfold mvP
    dsimp only
    omega
  rw [e1, e2]
  by_cases h : b.2 < a.2
  · rw [if_pos (show (mvP x y b).2 < (mvP x y a).2 by unfold mvP; dsimp only; omega), if_pos h]
  · rw [if_neg (show ¬ (mvP x y b).2 < (mvP x y a).2 by unfold mvP; dsimp only; omega), if_neg h]
theorem insideR_move (n : Nat) (q : Nat → Pp) (x y : Int) (p : Pp) : insideR n (fun i => mvP x y (q i)) (mvP x y p) = insideR n q p := by
  have e1 : onR n (fun i => mvP x y (q i)) (mvP x y p) = onR n q p := cN_congr fun i _ => on_move x y _ _ _
  have e2 : rayR n (fun i => mvP x y (q i)) (mvP x y p) = rayR n q p := cN_congr fun i _ => ray_move x y _ _ _
  unfold insideR
  rw [e1, e2]
/-- The other way round: the first stays, then from behind. -/
theorem back_next {n i : Nat} (hi : i < n) : (n - (i + 1) % n) % n = n - 1 - i := by
  by_cases h : i + 1 < n
  · rw [Nat.mod_eq_of_lt h, Nat.mod_eq_of_lt (by omega)]
    omega
  · rw [show i + 1 = n by omega, Nat.mod_self, Nat.sub_zero, Nat.mod_self]
    omega
theorem back_this {n i : Nat} (hi : i < n) : (n - i) % n = (n - 1 - i + 1) % n := by rw [show n - 1 - i + 1 = n - i by omega]
theorem areaR_back (n : Nat) (q : Nat → Pp) : areaR n (fun i => q ((n - i) % n)) = -areaR n q := by
  unfold areaR
  rw [← sN_rev (fun i => crossI (q i) (q ((i + 1) % n))) n, ← sN_neg]
  exact sN_congr fun i hi => by dsimp only; rw [back_next hi, back_this hi, crossI_anti]
theorem insideR_back (n : Nat) (q : Nat → Pp) (p : Pp) : insideR n (fun i => q ((n - i) % n)) p = insideR n q p := by
  have e1 : onR n (fun i => q ((n - i) % n)) p = onR n q p := by
    unfold onR
    rw [← cN_rev (fun i => on2 (q i) (q ((i + 1) % n)) p) n]
    exact cN_congr fun i hi => by dsimp only; rw [back_next hi, back_this hi, on_ab]
  have e2 : rayR n (fun i => q ((n - i) % n)) p = rayR n q p := by
    unfold rayR
    rw [← cN_rev (fun i => rayP (q i) (q ((i + 1) % n)) p) n]
    exact cN_congr fun i hi => by dsimp only; rw [back_next hi, back_this hi, rayP_ab]
  unfold insideR
  rw [e1, e2]
/-- A way of m steps from place a on, and the step back. -/
def pathS (a m : Nat) (q : Nat → Pp) : Int := sN m fun i => crossI (q (a + i)) (q (a + i + 1))
theorem areaR_path (m : Nat) (q : Nat → Pp) : areaR (m + 1) q = pathS 0 m q + crossI (q m) (q 0) := by
  unfold areaR pathS
  have e : sN (m + 1) (fun i => crossI (q i) (q ((i + 1) % (m + 1)))) = sN m (fun i => crossI (q i) (q ((i + 1) % (m + 1)))) + crossI (q m) (q ((m + 1) % (m + 1))) := rfl
  rw [e, Nat.mod_self]
  congr 1
  exact sN_congr fun i hi => by rw [Nat.mod_eq_of_lt (by omega), Nat.zero_add]
theorem pathS_add (a m k : Nat) (q : Nat → Pp) : pathS a (m + k) q = pathS a m q + pathS (a + m) k q := by
  unfold pathS
  rw [sN_add]
  congr 1
  exact sN_congr fun i _ => by rw [show a + (m + i) = a + m + i by omega]
/-- Parted in two between two of its points: the first part from a to b, the second from b on to the end, and from the beginning to a. -/
theorem areaR_parts {n a b : Nat} (q : Nat → Pp) (hab : a ≤ b) (hb : b < n) : areaR (b - a + 1) (fun i => q (a + i)) + areaR (n - b + a + 1) (fun i => if i < n - b then q (b + i) else q (i - (n - b))) = areaR n q := by
  obtain ⟨m, rfl⟩ : ∃ m, n = m + 1 := ⟨n - 1, by omega⟩
  rw [areaR_path, areaR_path, areaR_path]
  have p1 : pathS 0 (b - a) (fun i => q (a + i)) = pathS a (b - a) q := sN_congr fun i _ => by
    dsimp only
    rw [Nat.zero_add, Nat.add_assoc]
  have p2 : pathS 0 (m + 1 - b + a) (fun i => if i < m + 1 - b then q (b + i) else q (i - (m + 1 - b))) = pathS b (m - b) q + crossI (q m) (q 0) + pathS 0 a q := by
    rw [show m + 1 - b + a = (m - b + 1) + a by omega, pathS_add, pathS_add]
    congr 1
    · congr 1
      · exact sN_congr fun i hi => by
          dsimp only
          rw [if_pos (by omega), if_pos (by omega), Nat.zero_add, Nat.add_assoc]
      · show sN 1 _ = _
        have e : ∀ g : Nat → Int, sN 1 g = 0 + g 0 := fun _ => rfl
        rw [e]
        dsimp only
        rw [if_pos (by omega), if_neg (by omega), show b + (0 + (m - b) + 0) = m by omega, show 0 + (m - b) + 0 + 1 - (m + 1 - b) = 0 by omega]
        omega
    · exact sN_congr fun i hi => by
        dsimp only
        rw [if_neg (by omega), if_neg (by omega), show 0 + (m - b + 1) + i - (m + 1 - b) = 0 + i by omega, show 0 + (m - b + 1) + i + 1 - (m + 1 - b) = 0 + i + 1 by omega]
  have p3 : pathS 0 m q = pathS 0 a q + pathS a (b - a) q + pathS b (m - b) q := by
    have h1 := pathS_add 0 a (b - a) q
    have h2 := pathS_add 0 b (m - b) q
    rw [show a + (b - a) = b by omega, Nat.zero_add] at h1
    rw [show b + (m - b) = m by omega, Nat.zero_add] at h2
    omega
  rw [p1, p2, p3]
  have c1 := crossI_anti (q a) (q b)
  rw [if_neg (show ¬ m + 1 - b + a < m + 1 - b by omega), if_pos (show 0 < m + 1 - b by omega), show m + 1 - b + a - (m + 1 - b) = a by omega, show a + (b - a) = b by omega, Nat.add_zero, Nat.add_zero]
  omega
end Go.Proofs.Ytepnjknblppfcaa
