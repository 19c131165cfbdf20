/-
  No cell of these rows narrows 'for every input' (looked for: loops, veiled, ifaces, maps, wideKeys, modest, calm, conditions, laid).
  DERIVED. THE GIVEN ROWS OF THIS SEAT. 5 by the template 'for every input the law returns true; each argument reads behind the call as it read before'; 0 by the template 'total and deterministic' (their statements: YthalnfnfnaknnaaTotals.lean).
  GIVEN WITH THE SEED: the statements are not yours to turn. If you find one false, say at which input.
  Laid BY PROGRAM, IN A SANDBOX (cutbox-rows.mjs): the forced cells as the released guide's own fill.sh prints them over the translation bf1488efa7e39f66… (all of the seat's roots in one cut). By AI agents, Wed Nov 11 2026. No macro, syntax, notation, axiom, sorry.
-/
import Derived.Test.YthalnfnfnaknnaaChecked
import GoSem.Claim
import GoSem.ClaimJoined
import GoSem.ClaimMapViews
import Derived.JoinedTies
import Derived.KernelRfl
namespace Go.Proofs.Ythalnfnfnaknnaa
/- THE CELL 'sum', in the pinned program and in every row, IS THE sha256 OF THE DUMP (.gsa) THAT YthalnfnfnaknnaaProg.lean LOADS. Nothing in Lean hashes anything: it is a label: what it is worth is what the hold of that sum in a sandbox is worth. -/
noncomputable def Try.pinned : Pinned := { name := "ythalnfnfnaknnaa", sum := "bf1488efa7e39f661c3b5747ac2441d37733d5752bb51ef7397a91daa533ee3b", checked := Try.checked }
namespace Rows
def none {H : Type} : Left H := { results := [], args := [] }

/-- 'terrierlaw10.SegMoves': WHATEVER THE INPUT: true; the input reads as it did. -/
def segMovesSpec : ChangeSpec := { name := "segMoves", fn := fun _ => fun
  | [d1, d2, d3, d4, d5, d6] => { results := [.lit (.bool true)], args := [d1, d2, d3, d4, d5, d6] }
  | _ => none }
def segMovesRow : OpenClaim := { program := "ythalnfnfnaknnaa", sum := "bf1488efa7e39f661c3b5747ac2441d37733d5752bb51ef7397a91daa533ee3b", func := "terrier/terrierlaw10.SegMoves", spec := "segMoves", apart := false }
def SegMovesSaid : Prop := segMovesRow.holds Try.pinned (OpenSpec.ofChange segMovesSpec)

/-- ITS FALSE NEIGHBOUR: 'it returns false'. Refute it at one input. -/
def segMovesWrong : ChangeSpec := { name := "segMoves", fn := fun _ => fun
  | [d1, d2, d3, d4, d5, d6] => { results := [.lit (.bool false)], args := [d1, d2, d3, d4, d5, d6] }
  | _ => none }
def SegMovesWrongFalsely : Prop := segMovesRow.holds Try.pinned (OpenSpec.ofChange segMovesWrong)

/-- 'terrierlaw10.SegLines': WHATEVER THE INPUT: true; the input reads as it did. -/
def segLinesSpec : ChangeSpec := { name := "segLines", fn := fun _ => fun
  | [d1, d2, d3] => { results := [.lit (.bool true)], args := [d1, d2, d3] }
  | _ => none }
def segLinesRow : OpenClaim := { program := "ythalnfnfnaknnaa", sum := "bf1488efa7e39f661c3b5747ac2441d37733d5752bb51ef7397a91daa533ee3b", func := "terrier/terrierlaw10.SegLines", spec := "segLines", apart := false }
def SegLinesSaid : Prop := segLinesRow.holds Try.pinned (OpenSpec.ofChange segLinesSpec)

/-- ITS FALSE NEIGHBOUR: 'it returns false'. Refute it at one input. -/
def segLinesWrong : ChangeSpec := { name := "segLines", fn := fun _ => fun
  | [d1, d2, d3] => { results := [.lit (.bool false)], args := [d1, d2, d3] }
  | _ => none }
def SegLinesWrongFalsely : Prop := segLinesRow.holds Try.pinned (OpenSpec.ofChange segLinesWrong)

/-- 'terrierlaw10.SegRelates': WHATEVER THE INPUT: true; the input reads as it did. -/
def segRelatesSpec : ChangeSpec := { name := "segRelates", fn := fun _ => fun
  | [d1, d2, d3, d4] => { results := [.lit (.bool true)], args := [d1, d2, d3, d4] }
  | _ => none }
def segRelatesRow : OpenClaim := { program := "ythalnfnfnaknnaa", sum := "bf1488efa7e39f661c3b5747ac2441d37733d5752bb51ef7397a91daa533ee3b", func := "terrier/terrierlaw10.SegRelates", spec := "segRelates", apart := false }
def SegRelatesSaid : Prop := segRelatesRow.holds Try.pinned (OpenSpec.ofChange segRelatesSpec)

/-- ITS FALSE NEIGHBOUR: 'it returns false'. Refute it at one input. -/
def segRelatesWrong : ChangeSpec := { name := "segRelates", fn := fun _ => fun
  | [d1, d2, d3, d4] => { results := [.lit (.bool false)], args := [d1, d2, d3, d4] }
  | _ => none }
def SegRelatesWrongFalsely : Prop := segRelatesRow.holds Try.pinned (OpenSpec.ofChange segRelatesWrong)

/-- 'terrierlaw10.SegRays': WHATEVER THE INPUT: true; the input reads as it did. -/
def segRaysSpec : ChangeSpec := { name := "segRays", fn := fun _ => fun
  | [d1, d2, d3] => { results := [.lit (.bool true)], args := [d1, d2, d3] }
  | _ => none }
def segRaysRow : OpenClaim := { program := "ythalnfnfnaknnaa", sum := "bf1488efa7e39f661c3b5747ac2441d37733d5752bb51ef7397a91daa533ee3b", func := "terrier/terrierlaw10.SegRays", spec := "segRays", apart := false }
def SegRaysSaid : Prop := segRaysRow.holds Try.pinned (OpenSpec.ofChange segRaysSpec)

/-- ITS FALSE NEIGHBOUR: 'it returns false'. Refute it at one input. -/
def segRaysWrong : ChangeSpec := { name := "segRays", fn := fun _ => fun
  | [d1, d2, d3] => { results := [.lit (.bool false)], args := [d1, d2, d3] }
  | _ => none }
def SegRaysWrongFalsely : Prop := segRaysRow.holds Try.pinned (OpenSpec.ofChange segRaysWrong)

/-- 'terrierlaw10.SegGrids': WHATEVER THE INPUT: true; the input reads as it did. -/
def segGridsSpec : ChangeSpec := { name := "segGrids", fn := fun _ => fun
  | [d] => { results := [.lit (.bool true)], args := [d] }
  | _ => none }
def segGridsRow : OpenClaim := { program := "ythalnfnfnaknnaa", sum := "bf1488efa7e39f661c3b5747ac2441d37733d5752bb51ef7397a91daa533ee3b", func := "terrier/terrierlaw10.SegGrids", spec := "segGrids", apart := false }
def SegGridsSaid : Prop := segGridsRow.holds Try.pinned (OpenSpec.ofChange segGridsSpec)

/-- ITS FALSE NEIGHBOUR: 'it returns false'. Refute it at one input. -/
def segGridsWrong : ChangeSpec := { name := "segGrids", fn := fun _ => fun
  | [d] => { results := [.lit (.bool false)], args := [d] }
  | _ => none }
def SegGridsWrongFalsely : Prop := segGridsRow.holds Try.pinned (OpenSpec.ofChange segGridsWrong)

/- THE SECOND FORM. 'bulk': how many values and letters a reading holds, each counted each time it is reached (what is shared counts as often as it is met; a slice's spare places count too). A statement '..UptoSaid' is the law's where the arguments, and the package variables that the reading takes, are together of bulk at most 1048576: NARROWER than '..Said'. Prove '..Said' where nothing that the law and all that it calls make is longer than what came in: it says more and counts as full. Else prove '..UptoSaid'. A law counts once. -/
mutual
def uptoBulk {H : Type} : DataW H → Nat
  | .lit (.string bytes) => bytes.length + 1
  | .lit _ => 1
  | .nil => 1
  | .ptr d => uptoBulk d + 1
  | .slice elems spare => uptoBulkAll elems + uptoBulkAll spare + 1
  | .agg parts => uptoBulkAll parts + 1
  | .iface _ d => uptoBulk d + 1
  | .map entries => uptoBulkEntries entries + 1
  | .held _ => 1
def uptoBulkAll {H : Type} : List (DataW H) → Nat
  | [] => 0
  | d :: r => uptoBulk d + uptoBulkAll r
def uptoBulkEntries {H : Type} : List (Lit × DataW H) → Nat
  | [] => 0
  | x :: r => uptoBulkEntry x + uptoBulkEntries r
def uptoBulkEntry {H : Type} : Lit × DataW H → Nat
  | (.string bytes, d) => bytes.length + uptoBulk d + 1
  | (_, d) => uptoBulk d + 1
 end
def uptoSmall : (H : Type) → List (DataW H) → Bool := fun _ ds => decide (uptoBulkAll ds ≤ 1048576)
def OpenSpec.upto (s : _root_.Go.ChangeSpec) : _root_.Go.OpenSpec := { _root_.Go.OpenSpec.ofChange s with cond := some uptoSmall }

/-- 'terrierlaw10.SegMoves', WHERE WHAT IT READS IS OF BULK AT MOST 1048576: true; the input reads as it did. -/
def segMovesUptoRow : OpenClaim := { program := "ythalnfnfnaknnaa", sum := "bf1488efa7e39f661c3b5747ac2441d37733d5752bb51ef7397a91daa533ee3b", func := "terrier/terrierlaw10.SegMoves", spec := "segMoves", apart := false, narrowed := true }
def SegMovesUptoSaid : Prop := segMovesUptoRow.holds Try.pinned (OpenSpec.upto segMovesSpec)

/-- 'terrierlaw10.SegLines', WHERE WHAT IT READS IS OF BULK AT MOST 1048576: true; the input reads as it did. -/
def segLinesUptoRow : OpenClaim := { program := "ythalnfnfnaknnaa", sum := "bf1488efa7e39f661c3b5747ac2441d37733d5752bb51ef7397a91daa533ee3b", func := "terrier/terrierlaw10.SegLines", spec := "segLines", apart := false, narrowed := true }
def SegLinesUptoSaid : Prop := segLinesUptoRow.holds Try.pinned (OpenSpec.upto segLinesSpec)

/-- 'terrierlaw10.SegRelates', WHERE WHAT IT READS IS OF BULK AT MOST 1048576: true; the input reads as it did. -/
def segRelatesUptoRow : OpenClaim := { program := "ythalnfnfnaknnaa", sum := "bf1488efa7e39f661c3b5747ac2441d37733d5752bb51ef7397a91daa533ee3b", func := "terrier/terrierlaw10.SegRelates", spec := "segRelates", apart := false, narrowed := true }
def SegRelatesUptoSaid : Prop := segRelatesUptoRow.holds Try.pinned (OpenSpec.upto segRelatesSpec)

/-- 'terrierlaw10.SegRays', WHERE WHAT IT READS IS OF BULK AT MOST 1048576: true; the input reads as it did. -/
def segRaysUptoRow : OpenClaim := { program := "ythalnfnfnaknnaa", sum := "bf1488efa7e39f661c3b5747ac2441d37733d5752bb51ef7397a91daa533ee3b", func := "terrier/terrierlaw10.SegRays", spec := "segRays", apart := false, narrowed := true }
def SegRaysUptoSaid : Prop := segRaysUptoRow.holds Try.pinned (OpenSpec.upto segRaysSpec)

/-- 'terrierlaw10.SegGrids', WHERE WHAT IT READS IS OF BULK AT MOST 1048576: true; the input reads as it did. -/
def segGridsUptoRow : OpenClaim := { program := "ythalnfnfnaknnaa", sum := "bf1488efa7e39f661c3b5747ac2441d37733d5752bb51ef7397a91daa533ee3b", func := "terrier/terrierlaw10.SegGrids", spec := "segGrids", apart := false, narrowed := true }
def SegGridsUptoSaid : Prop := segGridsUptoRow.holds Try.pinned (OpenSpec.upto segGridsSpec)

end Rows
end Go.Proofs.Ythalnfnfnaknnaa
