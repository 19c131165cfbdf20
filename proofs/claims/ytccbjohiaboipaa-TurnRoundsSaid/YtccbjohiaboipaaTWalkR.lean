/-
  TurnRounds, as its frame wants it.
-/
import Derived.Test.YtccbjohiaboipaaTRounds
import Derived.Test.YtccbjohiaboipaaTTurnC
namespace Go.Proofs.Ytccbjohiaboipaa
open Go.RowKit

theorem turnRounds_walk (w : World) (v : Int) (h0 : -9223372036854775808 ≤ v) (h1 : v ≤ 9223372036854775807) : Calls Try.prog 6 #[.int .i64 v] w fun e w' => e = .returned (.bool true) ∧ Below w.heap.size w w' := turnRounds_core turnC w v h0 h1
end Go.Proofs.Ytccbjohiaboipaa
