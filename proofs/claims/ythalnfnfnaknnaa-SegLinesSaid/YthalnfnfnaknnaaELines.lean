/-
  SegLines: the walk, of the landed seg.
-/
import Derived.Test.YthalnfnfnaknnaaERay
import Derived.Test.YthalnfnfnaknnaaSLinesWalk
namespace Go.Proofs.Ythalnfnfnaknnaa
open Go.RowKit Go.Sort

theorem segLines_walk (w : World) (v : Int) (h1 : -9223372036854775808 ≤ v) (h2 : v ≤ 9223372036854775807) (sx : Int) (h3 : -9223372036854775808 ≤ sx) (h4 : sx ≤ 9223372036854775807) (sy : Int) (h5 : -9223372036854775808 ≤ sy) (h6 : sy ≤ 9223372036854775807) :
    Calls Try.prog 4 #[.int .i64 v, .int .i64 sx, .int .i64 sy] w fun e w' => e = .returned (.bool true) ∧ Below w.heap.size w w' := segLines_walkC segC w v h1 h2 sx h3 h4 sy h5 h6
end Go.Proofs.Ythalnfnfnaknnaa
