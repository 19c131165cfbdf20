/-
  No cell of these rows narrows 'for every input' (looked for: loops, veiled, ifaces, maps, wideKeys, modest, calm, conditions, laid).
  DERIVED. THE GIVEN ROWS OF THIS SEAT. 6 by the template 'for every input the law returns true; each argument reads behind the call as it read before'; 0 by the template 'total and deterministic' (their statements: YtjokpahlpkoopaaTotals.lean).
  GIVEN WITH THE SEED: the statements are not yours to turn. If you find one false, say at which input.
  Laid BY PROGRAM, IN A SANDBOX (cutbox-rows.mjs): the forced cells as the released guide's own fill.sh prints them over the translation 1d24bcf7776ba99a… (all of the seat's roots in one cut). By AI agents, Wed Nov 11 2026. No macro, syntax, notation, axiom, sorry.
-/
import Derived.Test.YtjokpahlpkoopaaChecked
import GoSem.Claim
import GoSem.ClaimJoined
import GoSem.ClaimMapViews
import Derived.JoinedTies
import Derived.KernelRfl
namespace Go.Proofs.Ytjokpahlpkoopaa
/- THE CELL 'sum', in the pinned program and in every row, IS THE sha256 OF THE DUMP (.gsa) THAT YtjokpahlpkoopaaProg.lean LOADS. Nothing in Lean hashes anything: it is a label: what it is worth is what the hold of that sum in a sandbox is worth. -/
noncomputable def Try.pinned : Pinned := { name := "ytjokpahlpkoopaa", sum := "1d24bcf7776ba99a76b412d133475922cb3e575ab72901b1e345752638901c7d", checked := Try.checked }
namespace Rows
def none {H : Type} : Left H := { results := [], args := [] }

/-- 'terrierlaw12.LineCuts': WHATEVER THE INPUT: true; the input reads as it did. -/
def lineCutsSpec : ChangeSpec := { name := "lineCuts", fn := fun _ => fun
  | [d] => { results := [.lit (.bool true)], args := [d] }
  | _ => none }
def lineCutsRow : OpenClaim := { program := "ytjokpahlpkoopaa", sum := "1d24bcf7776ba99a76b412d133475922cb3e575ab72901b1e345752638901c7d", func := "terrier/terrierlaw12.LineCuts", spec := "lineCuts", unfollowed := true, recurses := true, apart := false }
def LineCutsSaid : Prop := lineCutsRow.holds Try.pinned (OpenSpec.ofChange lineCutsSpec)

/-- ITS FALSE NEIGHBOUR: 'it returns false'. Refute it at one input. -/
def lineCutsWrong : ChangeSpec := { name := "lineCuts", fn := fun _ => fun
  | [d] => { results := [.lit (.bool false)], args := [d] }
  | _ => none }
def LineCutsWrongFalsely : Prop := lineCutsRow.holds Try.pinned (OpenSpec.ofChange lineCutsWrong)

/-- 'terrierlaw12.LineRows': WHATEVER THE INPUT: true; the input reads as it did. -/
def lineRowsSpec : ChangeSpec := { name := "lineRows", fn := fun _ => fun
  | [d1, d2, d3] => { results := [.lit (.bool true)], args := [d1, d2, d3] }
  | _ => none }
def lineRowsRow : OpenClaim := { program := "ytjokpahlpkoopaa", sum := "1d24bcf7776ba99a76b412d133475922cb3e575ab72901b1e345752638901c7d", func := "terrier/terrierlaw12.LineRows", spec := "lineRows", unfollowed := true, recurses := true, apart := false }
def LineRowsSaid : Prop := lineRowsRow.holds Try.pinned (OpenSpec.ofChange lineRowsSpec)

/-- ITS FALSE NEIGHBOUR: 'it returns false'. Refute it at one input. -/
def lineRowsWrong : ChangeSpec := { name := "lineRows", fn := fun _ => fun
  | [d1, d2, d3] => { results := [.lit (.bool false)], args := [d1, d2, d3] }
  | _ => none }
def LineRowsWrongFalsely : Prop := lineRowsRow.holds Try.pinned (OpenSpec.ofChange lineRowsWrong)

/-- 'terrierlaw12.LineEnds': WHATEVER THE INPUT: true; the input reads as it did. -/
def lineEndsSpec : ChangeSpec := { name := "lineEnds", fn := fun _ => fun
  | [d] => { results := [.lit (.bool true)], args := [d] }
  | _ => none }
def lineEndsRow : OpenClaim := { program := "ytjokpahlpkoopaa", sum := "1d24bcf7776ba99a76b412d133475922cb3e575ab72901b1e345752638901c7d", func := "terrier/terrierlaw12.LineEnds", spec := "lineEnds", unfollowed := true, recurses := true, apart := false }
def LineEndsSaid : Prop := lineEndsRow.holds Try.pinned (OpenSpec.ofChange lineEndsSpec)

/-- ITS FALSE NEIGHBOUR: 'it returns false'. Refute it at one input. -/
def lineEndsWrong : ChangeSpec := { name := "lineEnds", fn := fun _ => fun
  | [d] => { results := [.lit (.bool false)], args := [d] }
  | _ => none }
def LineEndsWrongFalsely : Prop := lineEndsRow.holds Try.pinned (OpenSpec.ofChange lineEndsWrong)

/-- 'terrierlaw12.LineOk': WHATEVER THE INPUT: true; the input reads as it did. -/
def lineOkSpec : ChangeSpec := { name := "lineOk", fn := fun _ => fun
  | [d] => { results := [.lit (.bool true)], args := [d] }
  | _ => none }
def lineOkRow : OpenClaim := { program := "ytjokpahlpkoopaa", sum := "1d24bcf7776ba99a76b412d133475922cb3e575ab72901b1e345752638901c7d", func := "terrier/terrierlaw12.LineOk", spec := "lineOk", unfollowed := true, recurses := true, apart := false }
def LineOkSaid : Prop := lineOkRow.holds Try.pinned (OpenSpec.ofChange lineOkSpec)

/-- ITS FALSE NEIGHBOUR: 'it returns false'. Refute it at one input. -/
def lineOkWrong : ChangeSpec := { name := "lineOk", fn := fun _ => fun
  | [d] => { results := [.lit (.bool false)], args := [d] }
  | _ => none }
def LineOkWrongFalsely : Prop := lineOkRow.holds Try.pinned (OpenSpec.ofChange lineOkWrong)

/-- 'terrierlaw12.LineTurns': WHATEVER THE INPUT: true; the input reads as it did. -/
def lineTurnsSpec : ChangeSpec := { name := "lineTurns", fn := fun _ => fun
  | [d1, d2] => { results := [.lit (.bool true)], args := [d1, d2] }
  | _ => none }
def lineTurnsRow : OpenClaim := { program := "ytjokpahlpkoopaa", sum := "1d24bcf7776ba99a76b412d133475922cb3e575ab72901b1e345752638901c7d", func := "terrier/terrierlaw12.LineTurns", spec := "lineTurns", unfollowed := true, recurses := true, apart := false }
def LineTurnsSaid : Prop := lineTurnsRow.holds Try.pinned (OpenSpec.ofChange lineTurnsSpec)

/-- ITS FALSE NEIGHBOUR: 'it returns false'. Refute it at one input. -/
def lineTurnsWrong : ChangeSpec := { name := "lineTurns", fn := fun _ => fun
  | [d1, d2] => { results := [.lit (.bool false)], args := [d1, d2] }
  | _ => none }
def LineTurnsWrongFalsely : Prop := lineTurnsRow.holds Try.pinned (OpenSpec.ofChange lineTurnsWrong)

/-- 'terrierlaw12.LineSplits': WHATEVER THE INPUT: true; the input reads as it did. -/
def lineSplitsSpec : ChangeSpec := { name := "lineSplits", fn := fun _ => fun
  | [d1, d2] => { results := [.lit (.bool true)], args := [d1, d2] }
  | _ => none }
def lineSplitsRow : OpenClaim := { program := "ytjokpahlpkoopaa", sum := "1d24bcf7776ba99a76b412d133475922cb3e575ab72901b1e345752638901c7d", func := "terrier/terrierlaw12.LineSplits", spec := "lineSplits", unfollowed := true, recurses := true, apart := false }
def LineSplitsSaid : Prop := lineSplitsRow.holds Try.pinned (OpenSpec.ofChange lineSplitsSpec)

/-- ITS FALSE NEIGHBOUR: 'it returns false'. Refute it at one input. -/
def lineSplitsWrong : ChangeSpec := { name := "lineSplits", fn := fun _ => fun
  | [d1, d2] => { results := [.lit (.bool false)], args := [d1, d2] }
  | _ => none }
def LineSplitsWrongFalsely : Prop := lineSplitsRow.holds Try.pinned (OpenSpec.ofChange lineSplitsWrong)

/- THE SECOND FORM. 'bulk': how many values and letters a reading holds, each counted each time it is reached (what is shared counts as often as it is met; a slice's spare places count too). A statement '..UptoSaid' is the law's where the arguments, and the package variables that the reading takes, are together of bulk at most 1048576: NARROWER than '..Said'. Prove '..Said' where nothing that the law and all that it calls make is longer than what came in: it says more and counts as full. Else prove '..UptoSaid'. A law counts once. -/
mutual
def uptoBulk {H : Type} : DataW H → Nat
  | .lit (.string bytes) => bytes.length + 1
  | .lit _ => 1
  | .nil => 1
  | .ptr d => uptoBulk d + 1
  | .slice elems spare => uptoBulkAll elems + uptoBulkAll spare + 1
  | .agg parts => uptoBulkAll parts + 1
  | .iface _ d => uptoBulk d + 1
  | .map entries => uptoBulkEntries entries + 1
  | .held _ => 1
def uptoBulkAll {H : Type} : List (DataW H) → Nat
  | [] => 0
  | d :: r => uptoBulk d + uptoBulkAll r
def uptoBulkEntries {H : Type} : List (Lit × DataW H) → Nat
  | [] => 0
  | x :: r => uptoBulkEntry x + uptoBulkEntries r
def uptoBulkEntry {H : Type} : Lit × DataW H → Nat
  | (.string bytes, d) => bytes.length + uptoBulk d + 1
  | (_, d) => uptoBulk d + 1
 end
def uptoSmall : (H : Type) → List (DataW H) → Bool := fun _ ds => decide (uptoBulkAll ds ≤ 1048576)
def OpenSpec.upto (s : _root_.Go.ChangeSpec) : _root_.Go.OpenSpec := { _root_.Go.OpenSpec.ofChange s with cond := some uptoSmall }

/-- 'terrierlaw12.LineCuts', WHERE WHAT IT READS IS OF BULK AT MOST 1048576: true; the input reads as it did. -/
def lineCutsUptoRow : OpenClaim := { program := "ytjokpahlpkoopaa", sum := "1d24bcf7776ba99a76b412d133475922cb3e575ab72901b1e345752638901c7d", func := "terrier/terrierlaw12.LineCuts", spec := "lineCuts", unfollowed := true, recurses := true, apart := false, narrowed := true }
def LineCutsUptoSaid : Prop := lineCutsUptoRow.holds Try.pinned (OpenSpec.upto lineCutsSpec)

/-- 'terrierlaw12.LineRows', WHERE WHAT IT READS IS OF BULK AT MOST 1048576: true; the input reads as it did. -/
def lineRowsUptoRow : OpenClaim := { program := "ytjokpahlpkoopaa", sum := "1d24bcf7776ba99a76b412d133475922cb3e575ab72901b1e345752638901c7d", func := "terrier/terrierlaw12.LineRows", spec := "lineRows", unfollowed := true, recurses := true, apart := false, narrowed := true }
def LineRowsUptoSaid : Prop := lineRowsUptoRow.holds Try.pinned (OpenSpec.upto lineRowsSpec)

/-- 'terrierlaw12.LineEnds', WHERE WHAT IT READS IS OF BULK AT MOST 1048576: true; the input reads as it did. -/
def lineEndsUptoRow : OpenClaim := { program := "ytjokpahlpkoopaa", sum := "1d24bcf7776ba99a76b412d133475922cb3e575ab72901b1e345752638901c7d", func := "terrier/terrierlaw12.LineEnds", spec := "lineEnds", unfollowed := true, recurses := true, apart := false, narrowed := true }
def LineEndsUptoSaid : Prop := lineEndsUptoRow.holds Try.pinned (OpenSpec.upto lineEndsSpec)

/-- 'terrierlaw12.LineOk', WHERE WHAT IT READS IS OF BULK AT MOST 1048576: true; the input reads as it did. -/
def lineOkUptoRow : OpenClaim := { program := "ytjokpahlpkoopaa", sum := "1d24bcf7776ba99a76b412d133475922cb3e575ab72901b1e345752638901c7d", func := "terrier/terrierlaw12.LineOk", spec := "lineOk", unfollowed := true, recurses := true, apart := false, narrowed := true }
def LineOkUptoSaid : Prop := lineOkUptoRow.holds Try.pinned (OpenSpec.upto lineOkSpec)

/-- 'terrierlaw12.LineTurns', WHERE WHAT IT READS IS OF BULK AT MOST 1048576: true; the input reads as it did. -/
def lineTurnsUptoRow : OpenClaim := { program := "ytjokpahlpkoopaa", sum := "1d24bcf7776ba99a76b412d133475922cb3e575ab72901b1e345752638901c7d", func := "terrier/terrierlaw12.LineTurns", spec := "lineTurns", unfollowed := true, recurses := true, apart := false, narrowed := true }
def LineTurnsUptoSaid : Prop := lineTurnsUptoRow.holds Try.pinned (OpenSpec.upto lineTurnsSpec)

/-- 'terrierlaw12.LineSplits', WHERE WHAT IT READS IS OF BULK AT MOST 1048576: true; the input reads as it did. -/
def lineSplitsUptoRow : OpenClaim := { program := "ytjokpahlpkoopaa", sum := "1d24bcf7776ba99a76b412d133475922cb3e575ab72901b1e345752638901c7d", func := "terrier/terrierlaw12.LineSplits", spec := "lineSplits", unfollowed := true, recurses := true, apart := false, narrowed := true }
def LineSplitsUptoSaid : Prop := lineSplitsUptoRow.holds Try.pinned (OpenSpec.upto lineSplitsSpec)

end Rows
end Go.Proofs.Ytjokpahlpkoopaa
