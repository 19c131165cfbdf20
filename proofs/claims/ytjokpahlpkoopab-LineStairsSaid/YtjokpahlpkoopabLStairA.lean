/-
  Staircases of up to sixty steps are lines; with the way back to the first point they are closed ones.
-/
import Derived.Test.YtjokpahlpkoopabLStairP
namespace Go.Proofs.Ytjokpahlpkoopab

theorem stairs_a : stairB 3 32 = true := by decide +kernel
theorem stairs_b : stairB 32 42 = true := by decide +kernel
theorem stairs_c : stairB 42 49 = true := by decide +kernel
end Go.Proofs.Ytjokpahlpkoopab
