/-
  Layer 12: LineApart, as its frame wants it.
-/
import Derived.Test.YtlnjjkgjknheiaaLLawD
import Derived.Test.YtlnjjkgjknheiaaMLineC
namespace Go.Proofs.Ytlnjjkgjknheiaa

theorem lineApart_walk (w : World) (u : Value) (ps : List Pp) (hu : Src w u ps) (_ : ∀ p ∈ ps, P64 p) (hlp : ps.length ≤ 140737488355328) (v : Value) (qs : List Pp) (hv : Src w v qs) (_ : ∀ p ∈ qs, P64 p) (hlq : qs.length ≤ 140737488355328) :
    Calls Try.prog 4 #[u, v] w fun e w' => e = .returned (.bool true) ∧ RowKit.Below w.heap.size w w' := lineApart_core lineC w u v ps qs hu hv hlp hlq
end Go.Proofs.Ytlnjjkgjknheiaa
