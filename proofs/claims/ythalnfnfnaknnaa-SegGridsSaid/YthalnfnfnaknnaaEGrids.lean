/-
  SegGrids: the walk, of the landed seg.
-/
import Derived.Test.YthalnfnfnaknnaaERay
import Derived.Test.YthalnfnfnaknnaaSGridsWalk
namespace Go.Proofs.Ythalnfnfnaknnaa
open Go.RowKit Go.Sort

theorem segGrids_walk (w : World) (v : Int) (h1 : -9223372036854775808 ≤ v) (h2 : v ≤ 9223372036854775807) :
    Calls Try.prog 7 #[.int .i64 v] w fun e w' => e = .returned (.bool true) ∧ Below w.heap.size w w' := segGrids_walkC segC w v h1 h2
end Go.Proofs.Ythalnfnfnaknnaa
