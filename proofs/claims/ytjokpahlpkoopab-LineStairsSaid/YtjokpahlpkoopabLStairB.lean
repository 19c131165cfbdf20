/-
  Staircases of up to sixty steps are lines, the longer ones.
-/
import Derived.Test.YtjokpahlpkoopabLStairP
namespace Go.Proofs.Ytjokpahlpkoopab

theorem stairs_d : stairB 49 55 = true := by decide +kernel
theorem stairs_e : stairB 55 61 = true := by decide +kernel
end Go.Proofs.Ytjokpahlpkoopab
