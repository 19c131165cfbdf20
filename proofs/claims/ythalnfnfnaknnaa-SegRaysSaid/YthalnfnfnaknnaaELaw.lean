/-
  The walks of layer 10's laws, of the landed seg.
-/
import Derived.Test.YthalnfnfnaknnaaERay
namespace Go.Proofs.Ythalnfnfnaknnaa
open Go.RowKit Go.Sort

theorem segRays_walk (w : World) (ax ay : Int) (_ : -9223372036854775808 ≤ ax ∧ ax ≤ 9223372036854775807) (_ : -9223372036854775808 ≤ ay ∧ ay ≤ 9223372036854775807) (bx by' : Int) (_ : -9223372036854775808 ≤ bx ∧ bx ≤ 9223372036854775807) (_ : -9223372036854775808 ≤ by' ∧ by' ≤ 9223372036854775807) (px py : Int) (_ : -9223372036854775808 ≤ px ∧ px ≤ 9223372036854775807) (_ : -9223372036854775808 ≤ py ∧ py ≤ 9223372036854775807) :
    Calls Try.prog 6 #[pv ax ay, pv bx by', pv px py] w fun e w' => e = .returned (.bool true) ∧ Below w.heap.size w w' := segRays_core segC w ax ay bx by' px py
theorem segRelates_walk (w : World) (ax ay : Int) (_ : -9223372036854775808 ≤ ax ∧ ax ≤ 9223372036854775807) (_ : -9223372036854775808 ≤ ay ∧ ay ≤ 9223372036854775807) (bx by' : Int) (_ : -9223372036854775808 ≤ bx ∧ bx ≤ 9223372036854775807) (_ : -9223372036854775808 ≤ by' ∧ by' ≤ 9223372036854775807) (cx cy : Int) (_ : -9223372036854775808 ≤ cx ∧ cx ≤ 9223372036854775807) (_ : -9223372036854775808 ≤ cy ∧ cy ≤ 9223372036854775807) (dx dy : Int) (_ : -9223372036854775808 ≤ dx ∧ dx ≤ 9223372036854775807) (_ : -9223372036854775808 ≤ dy ∧ dy ≤ 9223372036854775807) :
    Calls Try.prog 5 #[pv ax ay, pv bx by', pv cx cy, pv dx dy] w fun e w' => e = .returned (.bool true) ∧ Below w.heap.size w w' := segRelates_core segC w ax ay bx by' cx cy dx dy
end Go.Proofs.Ythalnfnfnaknnaa
