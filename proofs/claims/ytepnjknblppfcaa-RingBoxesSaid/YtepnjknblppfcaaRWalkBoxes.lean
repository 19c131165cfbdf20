/-
  Layer 13: RingBoxes, as its frame wants it.
-/
import Derived.Test.YtepnjknblppfcaaRLawD
import Derived.Test.YtepnjknblppfcaaRRingC
namespace Go.Proofs.Ytepnjknblppfcaa

theorem ringBoxes_walk (w : World) (a : Int) (_ : -9223372036854775808 ≤ a) (_ : a ≤ 9223372036854775807) (b : Int) (_ : -9223372036854775808 ≤ b) (_ : b ≤ 9223372036854775807) (x y : Int) (_ : -9223372036854775808 ≤ x ∧ x ≤ 9223372036854775807) (_ : -9223372036854775808 ≤ y ∧ y ≤ 9223372036854775807) :
    Calls Try.prog 6 #[.int .i64 a, .int .i64 b, pv x y] w fun e w' => e = .returned (.bool true) ∧ RowKit.Below w.heap.size w w' := ringBoxes_core ringC w a b x y
end Go.Proofs.Ytepnjknblppfcaa
