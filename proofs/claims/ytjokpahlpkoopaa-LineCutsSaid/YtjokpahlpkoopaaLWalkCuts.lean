/-
  Layer 12: LineCuts, as its frame wants it.
-/
import Derived.Test.YtjokpahlpkoopaaLLawE
import Derived.Test.YtjokpahlpkoopaaMLineC
namespace Go.Proofs.Ytjokpahlpkoopaa

theorem lineCuts_walk (w : World) (v : Value) (ps : List Pp) (hs : Src w v ps) (_ : ∀ p ∈ ps, P64 p) (hl : ps.length ≤ 140737488355328) :
    Calls Try.prog 3 #[v] w fun e w' => e = .returned (.bool true) ∧ RowKit.Below w.heap.size w w' := lineCuts_core lineC w v ps hs hl
end Go.Proofs.Ytjokpahlpkoopaa
