/-
  The document's none, Half, Cmp, after, Between, Of.
-/
import Derived.Test.YtkdnkmheidbfdaaGreatM0
import Derived.Test.YtkdnkmheidbfdaaGreatTTurn
import Derived.Test.YtkdnkmheidbfdaaGreatQRefN
namespace Go.Proofs.YtkdnkmheidbfdaaGreat
open Go.RowKit Go.Sort

theorem noneD_is (x y : Int) : noneD (x, y) = true ↔ (x = 0 ∧ y = 0) ∨ 4194304 < x ∨ x < -4194304 ∨ 4194304 < y ∨ y < -4194304 := by
  unfold noneD
  simp only [Bool.or_eq_true, Bool.and_eq_true, beq_iff_eq, decide_eq_true_eq, or_assoc]


















































































































theorem halfD_is (x y : Int) : halfD (x, y) = if noneD (x, y) = true then -1 else if 0 < y ∨ (y = 0 ∧ 0 < x) then 0 else 1 := rfl






































































theorem mul22 {u v : Int} (hu0 : -4194304 ≤ u) (hu1 : u ≤ 4194304) (hv0 : -4194304 ≤ v) (hv1 : v ≤ 4194304) : -17592186044416 ≤ u * v ∧ u * v ≤ 17592186044416 := by
  have h := Int.natAbs_mul u v
  have h1 : u.natAbs ≤ 4194304 := by omega
  have h2 : v.natAbs ≤ 4194304 := by omega
  have h3 := Nat.mul_le_mul h1 h2
  omega
theorem half_small {x y : Int} (h : halfD (x, y) ≠ -1) : -4194304 ≤ x ∧ x ≤ 4194304 ∧ -4194304 ≤ y ∧ y ≤ 4194304 := by
  rw [halfD_is] at h
  split at h
  · exact absurd rfl h
  · rename_i g
    rw [noneD_is] at g
    omega
theorem cmpD_is (a b : Pp) : cmpD a b = if halfD a < 0 ∧ halfD b < 0 then 0 else if halfD a < 0 then 1 else if halfD b < 0 then -1 else if halfD a ≠ halfD b then sgn (halfD a - halfD b) else -sgn (crossD a b) := rfl
theorem cmpD_in (a b : Pp) : -1 ≤ cmpD a b ∧ cmpD a b ≤ 1 := by
  rw [cmpD_is]
  have h1 := sgn_is (halfD a - halfD b)
  have h2 := sgn_is (crossD a b)
  repeat' split
  all_goals omega













































































































end Go.Proofs.YtkdnkmheidbfdaaGreat

namespace Go.Proofs.YtkdnkmheidbfdaaGreat
open Go.RowKit Go.Sort

/-- From one point to another; are they unlike? -/
def ofD (a b : Pp) : Pp × Bool := ((b.1 - a.1, b.2 - a.2), !(a.1 == b.1 && a.2 == b.2))






end Go.Proofs.YtkdnkmheidbfdaaGreat
