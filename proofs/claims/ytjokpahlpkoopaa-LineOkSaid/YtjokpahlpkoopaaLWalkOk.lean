/-
  Layer 12: LineOk, as its frame wants it.
-/
import Derived.Test.YtjokpahlpkoopaaLLawA
import Derived.Test.YtjokpahlpkoopaaMLineC
namespace Go.Proofs.Ytjokpahlpkoopaa

theorem lineOk_walk (w : World) (v : Value) (ps : List Pp) (hs : Src w v ps) (h64 : ∀ p ∈ ps, P64 p) (_ : ps.length ≤ 140737488355328) :
    Calls Try.prog 6 #[v] w fun e w' => e = .returned (.bool true) ∧ RowKit.Below w.heap.size w w' := lineOk_core lineC w v ps hs h64
end Go.Proofs.Ytjokpahlpkoopaa
