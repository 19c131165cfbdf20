/-
  Layer 12: LineEnds, as its frame wants it.
-/
import Derived.Test.YtjokpahlpkoopaaLLawC
import Derived.Test.YtjokpahlpkoopaaMLineC
namespace Go.Proofs.Ytjokpahlpkoopaa

theorem lineEnds_walk (w : World) (v : Value) (ps : List Pp) (hs : Src w v ps) (_ : ∀ p ∈ ps, P64 p) (hl : ps.length ≤ 140737488355328) :
    Calls Try.prog 5 #[v] w fun e w' => e = .returned (.bool true) ∧ RowKit.Below w.heap.size w w' := lineEnds_core lineC w v ps hs hl
end Go.Proofs.Ytjokpahlpkoopaa
