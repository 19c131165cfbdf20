/-
  Layer 12: LineSplits, as its frame wants it.
-/
import Derived.Test.YtjokpahlpkoopaaLLawB
import Derived.Test.YtjokpahlpkoopaaMLineC
namespace Go.Proofs.Ytjokpahlpkoopaa

theorem lineSplits_walk (w : World) (v : Value) (ps : List Pp) (hs : Src w v ps) (_ : ∀ p ∈ ps, P64 p) (hl : ps.length ≤ 140737488355328) (x y : Int) (_ : -9223372036854775808 ≤ x ∧ x ≤ 9223372036854775807) (_ : -9223372036854775808 ≤ y ∧ y ≤ 9223372036854775807) :
    Calls Try.prog 8 #[v, pv x y] w fun e w' => e = .returned (.bool true) ∧ RowKit.Below w.heap.size w w' := lineSplits_core lineC w v ps x y hs hl
end Go.Proofs.Ytjokpahlpkoopaa
