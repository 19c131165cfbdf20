/-
  Staircases of up to sixty steps.
-/
import Derived.Test.YtjokpahlpkoopabLStairA
import Derived.Test.YtjokpahlpkoopabLStairB
namespace Go.Proofs.Ytjokpahlpkoopab

theorem stairs_ok {n : Nat} (h1 : 3 ≤ n) (h2 : n ≤ 60) : okL (stairL n) = true ∧ closedL (stairL n) = false ∧ okL (backL n 0) = true ∧ closedL (backL n 0) = true := by
  rcases (show n < 32 ∨ (32 ≤ n ∧ n < 42) ∨ (42 ≤ n ∧ n < 49) ∨ (49 ≤ n ∧ n < 55) ∨ (55 ≤ n ∧ n < 61) by omega) with h | ⟨h, h'⟩ | ⟨h, h'⟩ | ⟨h, h'⟩ | ⟨h, h'⟩
  · exact stairB_at stairs_a h1 h
  · exact stairB_at stairs_b h h'
  · exact stairB_at stairs_c h h'
  · exact stairB_at stairs_d h h'
  · exact stairB_at stairs_e h h'
end Go.Proofs.Ytjokpahlpkoopab
