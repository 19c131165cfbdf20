/-
  Layer 13: RingShifts, as its frame wants it.
-/
import Derived.Test.YtepnjknblppfcaaRLawC
import Derived.Test.YtepnjknblppfcaaRRingC
namespace Go.Proofs.Ytepnjknblppfcaa

theorem ringShifts_walk (w : World) (v : Value) (ps : List Pp) (hs : Src w v ps) (_ : ∀ p ∈ ps, P64 p) (hl : ps.length ≤ 140737488355328) (x y : Int) (_ : -9223372036854775808 ≤ x ∧ x ≤ 9223372036854775807) (_ : -9223372036854775808 ≤ y ∧ y ≤ 9223372036854775807) (dx : Int) (_ : -9223372036854775808 ≤ dx) (_ : dx ≤ 9223372036854775807) (dy : Int) (_ : -9223372036854775808 ≤ dy) (_ : dy ≤ 9223372036854775807) (fr : Int) (_ : -9223372036854775808 ≤ fr) (_ : fr ≤ 9223372036854775807) :
    Calls Try.prog 3 #[v, pv x y, .int .i64 dx, .int .i64 dy, .int .i64 fr] w fun e w' => e = .returned (.bool true) ∧ RowKit.Below w.heap.size w w' := ringShifts_core ringC w v ps x y dx dy fr hs hl
end Go.Proofs.Ytepnjknblppfcaa
