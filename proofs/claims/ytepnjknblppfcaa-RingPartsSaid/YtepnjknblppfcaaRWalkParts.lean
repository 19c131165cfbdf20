/-
  Layer 13: RingParts, as its frame wants it.
-/
import Derived.Test.YtepnjknblppfcaaRLawB
import Derived.Test.YtepnjknblppfcaaRRingC
namespace Go.Proofs.Ytepnjknblppfcaa

theorem ringParts_walk (w : World) (v : Value) (ps : List Pp) (hs : Src w v ps) (_ : ∀ p ∈ ps, P64 p) (hl : ps.length ≤ 140737488355328) (a : Int) (_ : -9223372036854775808 ≤ a) (_ : a ≤ 9223372036854775807) (b : Int) (_ : -9223372036854775808 ≤ b) (_ : b ≤ 9223372036854775807) :
    Calls Try.prog 4 #[v, .int .i64 a, .int .i64 b] w fun e w' => e = .returned (.bool true) ∧ RowKit.Below w.heap.size w w' := ringParts_core ringC w v ps a b hs hl
end Go.Proofs.Ytepnjknblppfcaa
