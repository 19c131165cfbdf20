/-
  TurnQuarters, as its frame wants it.
-/
import Derived.Test.YtccbjohiaboipaaTQuart
import Derived.Test.YtccbjohiaboipaaTTurnC
namespace Go.Proofs.Ytccbjohiaboipaa
open Go.RowKit

theorem turnQuarters_walk (w : World) (v : Int) (h0 : -9223372036854775808 ≤ v) (h1 : v ≤ 9223372036854775807) (m : Int) (_ : -9223372036854775808 ≤ m) (_ : m ≤ 9223372036854775807) : Calls Try.prog 3 #[.int .i64 v, .int .i64 m] w fun e w' => e = .returned (.bool true) ∧ Below w.heap.size w w' := turnQuarters_core turnC w v h0 h1 m
end Go.Proofs.Ytccbjohiaboipaa
