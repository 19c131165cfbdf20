/-
  Layer 12: LineStairs, as its frame wants it.
-/
import Derived.Test.YtjokpahlpkoopabLLawF
import Derived.Test.YtjokpahlpkoopabMLineC
namespace Go.Proofs.Ytjokpahlpkoopab

theorem lineStairs_walk (w : World) (n : Int) (_ : -9223372036854775808 ≤ n) (_ : n ≤ 9223372036854775807) (back : Int) (_ : -9223372036854775808 ≤ back) (_ : back ≤ 9223372036854775807) :
    Calls Try.prog 4 #[.int .i64 n, .int .i64 back] w fun e w' => e = .returned (.bool true) ∧ RowKit.Below w.heap.size w w' := lineStairs_core lineC w n back
end Go.Proofs.Ytjokpahlpkoopab
