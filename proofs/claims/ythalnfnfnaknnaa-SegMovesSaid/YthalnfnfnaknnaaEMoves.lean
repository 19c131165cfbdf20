/-
  SegMoves: the walk, of the landed seg.
-/
import Derived.Test.YthalnfnfnaknnaaERay
import Derived.Test.YthalnfnfnaknnaaSMovesWalk
namespace Go.Proofs.Ythalnfnfnaknnaa
open Go.RowKit Go.Sort

theorem segMoves_walk (w : World) (ax ay : Int) (h1 : -9223372036854775808 ≤ ax ∧ ax ≤ 9223372036854775807) (h2 : -9223372036854775808 ≤ ay ∧ ay ≤ 9223372036854775807) (bx by' : Int) (h3 : -9223372036854775808 ≤ bx ∧ bx ≤ 9223372036854775807) (h4 : -9223372036854775808 ≤ by' ∧ by' ≤ 9223372036854775807) (cx cy : Int) (h5 : -9223372036854775808 ≤ cx ∧ cx ≤ 9223372036854775807) (h6 : -9223372036854775808 ≤ cy ∧ cy ≤ 9223372036854775807) (dx dy : Int) (h7 : -9223372036854775808 ≤ dx ∧ dx ≤ 9223372036854775807) (h8 : -9223372036854775808 ≤ dy ∧ dy ≤ 9223372036854775807) (sx : Int) (h9 : -9223372036854775808 ≤ sx) (h10 : sx ≤ 9223372036854775807) (sy : Int) (h11 : -9223372036854775808 ≤ sy) (h12 : sy ≤ 9223372036854775807) :
    Calls Try.prog 3 #[pv ax ay, pv bx by', pv cx cy, pv dx dy, .int .i64 sx, .int .i64 sy] w fun e w' => e = .returned (.bool true) ∧ Below w.heap.size w w' := segMoves_walkC segC w ax ay h1 h2 bx by' h3 h4 cx cy h5 h6 dx dy h7 h8 sx h9 h10 sy h11 h12
end Go.Proofs.Ythalnfnfnaknnaa
