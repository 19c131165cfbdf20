/-
  Layer 13: RingTurned, as its frame wants it.
-/
import Derived.Test.YtepnjknblppfcaaRLawA
import Derived.Test.YtepnjknblppfcaaRRingC
namespace Go.Proofs.Ytepnjknblppfcaa

theorem ringTurned_walk (w : World) (v : Value) (ps : List Pp) (hs : Src w v ps) (_ : ∀ p ∈ ps, P64 p) (hl : ps.length ≤ 140737488355328) (x y : Int) (_ : -9223372036854775808 ≤ x ∧ x ≤ 9223372036854775807) (_ : -9223372036854775808 ≤ y ∧ y ≤ 9223372036854775807) :
    Calls Try.prog 5 #[v, pv x y] w fun e w' => e = .returned (.bool true) ∧ RowKit.Below w.heap.size w w' := ringTurned_core ringC w v ps x y hs hl
end Go.Proofs.Ytepnjknblppfcaa
