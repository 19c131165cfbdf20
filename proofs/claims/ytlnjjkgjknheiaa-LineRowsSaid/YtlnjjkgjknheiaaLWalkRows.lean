/-
  Layer 12: LineRows, as its frame wants it.
-/
import Derived.Test.YtlnjjkgjknheiaaLLawG
import Derived.Test.YtlnjjkgjknheiaaMLineC
namespace Go.Proofs.Ytlnjjkgjknheiaa

theorem lineRows_walk (w : World) (n : Int) (_ : -9223372036854775808 ≤ n) (_ : n ≤ 9223372036854775807) (long : Int) (_ : -9223372036854775808 ≤ long) (_ : long ≤ 9223372036854775807) (at' : Int) (_ : -9223372036854775808 ≤ at') (_ : at' ≤ 9223372036854775807) :
    Calls Try.prog 3 #[.int .i64 n, .int .i64 long, .int .i64 at'] w fun e w' => e = .returned (.bool true) ∧ RowKit.Below w.heap.size w w' := lineRows_core lineC w n long at'
end Go.Proofs.Ytlnjjkgjknheiaa
