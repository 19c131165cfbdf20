/-
  No cell of these rows narrows 'for every input' (looked for: loops, veiled, ifaces, maps, wideKeys, modest, calm, conditions, laid).
  DERIVED. THE GIVEN ROWS OF THIS SEAT. 5 by the template 'for every input the law returns true; each argument reads behind the call as it read before'; 0 by the template 'total and deterministic' (their statements: YtepnjknblppfcaaTotals.lean).
  GIVEN WITH THE SEED: the statements are not yours to turn. If you find one false, say at which input.
  Laid BY PROGRAM, IN A SANDBOX (cutbox-rows.mjs): the forced cells as the released guide's own fill.sh prints them over the translation c027c170af19d893… (all of the seat's roots in one cut). By AI agents, Wed Nov 11 2026. No macro, syntax, notation, axiom, sorry.
-/
import Derived.Test.YtepnjknblppfcaaChecked
import GoSem.Claim
import GoSem.ClaimJoined
import GoSem.ClaimMapViews
import Derived.JoinedTies
import Derived.KernelRfl
namespace Go.Proofs.Ytepnjknblppfcaa
/- THE CELL 'sum', in the pinned program and in every row, IS THE sha256 OF THE DUMP (.gsa) THAT YtepnjknblppfcaaProg.lean LOADS. Nothing in Lean hashes anything: it is a label: what it is worth is what the hold of that sum in a sandbox is worth. -/
noncomputable def Try.pinned : Pinned := { name := "ytepnjknblppfcaa", sum := "c027c170af19d8932b348cc96b2cff6c3702b1b5a65ec92574824dfd9326e40f", checked := Try.checked }
namespace Rows
def none {H : Type} : Left H := { results := [], args := [] }

/-- 'terrierlaw13.RingShifts': WHATEVER THE INPUT: true; the input reads as it did. -/
def ringShiftsSpec : ChangeSpec := { name := "ringShifts", fn := fun _ => fun
  | [d1, d2, d3, d4, d5] => { results := [.lit (.bool true)], args := [d1, d2, d3, d4, d5] }
  | _ => none }
def ringShiftsRow : OpenClaim := { program := "ytepnjknblppfcaa", sum := "c027c170af19d8932b348cc96b2cff6c3702b1b5a65ec92574824dfd9326e40f", func := "terrier/terrierlaw13.RingShifts", spec := "ringShifts", unfollowed := true, recurses := true, apart := false }
def RingShiftsSaid : Prop := ringShiftsRow.holds Try.pinned (OpenSpec.ofChange ringShiftsSpec)

/-- ITS FALSE NEIGHBOUR: 'it returns false'. Refute it at one input. -/
def ringShiftsWrong : ChangeSpec := { name := "ringShifts", fn := fun _ => fun
  | [d1, d2, d3, d4, d5] => { results := [.lit (.bool false)], args := [d1, d2, d3, d4, d5] }
  | _ => none }
def RingShiftsWrongFalsely : Prop := ringShiftsRow.holds Try.pinned (OpenSpec.ofChange ringShiftsWrong)

/-- 'terrierlaw13.RingParts': WHATEVER THE INPUT: true; the input reads as it did. -/
def ringPartsSpec : ChangeSpec := { name := "ringParts", fn := fun _ => fun
  | [d1, d2, d3] => { results := [.lit (.bool true)], args := [d1, d2, d3] }
  | _ => none }
def ringPartsRow : OpenClaim := { program := "ytepnjknblppfcaa", sum := "c027c170af19d8932b348cc96b2cff6c3702b1b5a65ec92574824dfd9326e40f", func := "terrier/terrierlaw13.RingParts", spec := "ringParts", unfollowed := true, recurses := true, apart := false }
def RingPartsSaid : Prop := ringPartsRow.holds Try.pinned (OpenSpec.ofChange ringPartsSpec)

/-- ITS FALSE NEIGHBOUR: 'it returns false'. Refute it at one input. -/
def ringPartsWrong : ChangeSpec := { name := "ringParts", fn := fun _ => fun
  | [d1, d2, d3] => { results := [.lit (.bool false)], args := [d1, d2, d3] }
  | _ => none }
def RingPartsWrongFalsely : Prop := ringPartsRow.holds Try.pinned (OpenSpec.ofChange ringPartsWrong)

/-- 'terrierlaw13.RingTurned': WHATEVER THE INPUT: true; the input reads as it did. -/
def ringTurnedSpec : ChangeSpec := { name := "ringTurned", fn := fun _ => fun
  | [d1, d2] => { results := [.lit (.bool true)], args := [d1, d2] }
  | _ => none }
def ringTurnedRow : OpenClaim := { program := "ytepnjknblppfcaa", sum := "c027c170af19d8932b348cc96b2cff6c3702b1b5a65ec92574824dfd9326e40f", func := "terrier/terrierlaw13.RingTurned", spec := "ringTurned", unfollowed := true, recurses := true, apart := false }
def RingTurnedSaid : Prop := ringTurnedRow.holds Try.pinned (OpenSpec.ofChange ringTurnedSpec)

/-- ITS FALSE NEIGHBOUR: 'it returns false'. Refute it at one input. -/
def ringTurnedWrong : ChangeSpec := { name := "ringTurned", fn := fun _ => fun
  | [d1, d2] => { results := [.lit (.bool false)], args := [d1, d2] }
  | _ => none }
def RingTurnedWrongFalsely : Prop := ringTurnedRow.holds Try.pinned (OpenSpec.ofChange ringTurnedWrong)

/-- 'terrierlaw13.RingBoxes': WHATEVER THE INPUT: true; the input reads as it did. -/
def ringBoxesSpec : ChangeSpec := { name := "ringBoxes", fn := fun _ => fun
  | [d1, d2, d3] => { results := [.lit (.bool true)], args := [d1, d2, d3] }
  | _ => none }
def ringBoxesRow : OpenClaim := { program := "ytepnjknblppfcaa", sum := "c027c170af19d8932b348cc96b2cff6c3702b1b5a65ec92574824dfd9326e40f", func := "terrier/terrierlaw13.RingBoxes", spec := "ringBoxes", unfollowed := true, recurses := true, apart := false }
def RingBoxesSaid : Prop := ringBoxesRow.holds Try.pinned (OpenSpec.ofChange ringBoxesSpec)

/-- ITS FALSE NEIGHBOUR: 'it returns false'. Refute it at one input. -/
def ringBoxesWrong : ChangeSpec := { name := "ringBoxes", fn := fun _ => fun
  | [d1, d2, d3] => { results := [.lit (.bool false)], args := [d1, d2, d3] }
  | _ => none }
def RingBoxesWrongFalsely : Prop := ringBoxesRow.holds Try.pinned (OpenSpec.ofChange ringBoxesWrong)

/-- 'terrierlaw13.RingGrids': WHATEVER THE INPUT: true; the input reads as it did. -/
def ringGridsSpec : ChangeSpec := { name := "ringGrids", fn := fun _ => fun
  | [d1, d2] => { results := [.lit (.bool true)], args := [d1, d2] }
  | _ => none }
def ringGridsRow : OpenClaim := { program := "ytepnjknblppfcaa", sum := "c027c170af19d8932b348cc96b2cff6c3702b1b5a65ec92574824dfd9326e40f", func := "terrier/terrierlaw13.RingGrids", spec := "ringGrids", unfollowed := true, recurses := true, apart := false }
def RingGridsSaid : Prop := ringGridsRow.holds Try.pinned (OpenSpec.ofChange ringGridsSpec)

/-- ITS FALSE NEIGHBOUR: 'it returns false'. Refute it at one input. -/
def ringGridsWrong : ChangeSpec := { name := "ringGrids", fn := fun _ => fun
  | [d1, d2] => { results := [.lit (.bool false)], args := [d1, d2] }
  | _ => none }
def RingGridsWrongFalsely : Prop := ringGridsRow.holds Try.pinned (OpenSpec.ofChange ringGridsWrong)

/- THE SECOND FORM. 'bulk': how many values and letters a reading holds, each counted each time it is reached (what is shared counts as often as it is met; a slice's spare places count too). A statement '..UptoSaid' is the law's where the arguments, and the package variables that the reading takes, are together of bulk at most 1048576: NARROWER than '..Said'. Prove '..Said' where nothing that the law and all that it calls make is longer than what came in: it says more and counts as full. Else prove '..UptoSaid'. A law counts once. -/
mutual
def uptoBulk {H : Type} : DataW H → Nat
  | .lit (.string bytes) => bytes.length + 1
  | .lit _ => 1
  | .nil => 1
  | .ptr d => uptoBulk d + 1
  | .slice elems spare => uptoBulkAll elems + uptoBulkAll spare + 1
  | .agg parts => uptoBulkAll parts + 1
  | .iface _ d => uptoBulk d + 1
  | .map entries => uptoBulkEntries entries + 1
  | .held _ => 1
def uptoBulkAll {H : Type} : List (DataW H) → Nat
  | [] => 0
  | d :: r => uptoBulk d + uptoBulkAll r
def uptoBulkEntries {H : Type} : List (Lit × DataW H) → Nat
  | [] => 0
  | x :: r => uptoBulkEntry x + uptoBulkEntries r
def uptoBulkEntry {H : Type} : Lit × DataW H → Nat
  | (.string bytes, d) => bytes.length + uptoBulk d + 1
  | (_, d) => uptoBulk d + 1
 end
def uptoSmall : (H : Type) → List (DataW H) → Bool := fun _ ds => decide (uptoBulkAll ds ≤ 1048576)
def OpenSpec.upto (s : _root_.Go.ChangeSpec) : _root_.Go.OpenSpec := { _root_.Go.OpenSpec.ofChange s with cond := some uptoSmall }

/-- 'terrierlaw13.RingShifts', WHERE WHAT IT READS IS OF BULK AT MOST 1048576: true; the input reads as it did. -/
def ringShiftsUptoRow : OpenClaim := { program := "ytepnjknblppfcaa", sum := "c027c170af19d8932b348cc96b2cff6c3702b1b5a65ec92574824dfd9326e40f", func := "terrier/terrierlaw13.RingShifts", spec := "ringShifts", unfollowed := true, recurses := true, apart := false, narrowed := true }
def RingShiftsUptoSaid : Prop := ringShiftsUptoRow.holds Try.pinned (OpenSpec.upto ringShiftsSpec)

/-- 'terrierlaw13.RingParts', WHERE WHAT IT READS IS OF BULK AT MOST 1048576: true; the input reads as it did. -/
def ringPartsUptoRow : OpenClaim := { program := "ytepnjknblppfcaa", sum := "c027c170af19d8932b348cc96b2cff6c3702b1b5a65ec92574824dfd9326e40f", func := "terrier/terrierlaw13.RingParts", spec := "ringParts", unfollowed := true, recurses := true, apart := false, narrowed := true }
def RingPartsUptoSaid : Prop := ringPartsUptoRow.holds Try.pinned (OpenSpec.upto ringPartsSpec)

/-- 'terrierlaw13.RingTurned', WHERE WHAT IT READS IS OF BULK AT MOST 1048576: true; the input reads as it did. -/
def ringTurnedUptoRow : OpenClaim := { program := "ytepnjknblppfcaa", sum := "c027c170af19d8932b348cc96b2cff6c3702b1b5a65ec92574824dfd9326e40f", func := "terrier/terrierlaw13.RingTurned", spec := "ringTurned", unfollowed := true, recurses := true, apart := false, narrowed := true }
def RingTurnedUptoSaid : Prop := ringTurnedUptoRow.holds Try.pinned (OpenSpec.upto ringTurnedSpec)

/-- 'terrierlaw13.RingBoxes', WHERE WHAT IT READS IS OF BULK AT MOST 1048576: true; the input reads as it did. -/
def ringBoxesUptoRow : OpenClaim := { program := "ytepnjknblppfcaa", sum := "c027c170af19d8932b348cc96b2cff6c3702b1b5a65ec92574824dfd9326e40f", func := "terrier/terrierlaw13.RingBoxes", spec := "ringBoxes", unfollowed := true, recurses := true, apart := false, narrowed := true }
def RingBoxesUptoSaid : Prop := ringBoxesUptoRow.holds Try.pinned (OpenSpec.upto ringBoxesSpec)

/-- 'terrierlaw13.RingGrids', WHERE WHAT IT READS IS OF BULK AT MOST 1048576: true; the input reads as it did. -/
def ringGridsUptoRow : OpenClaim := { program := "ytepnjknblppfcaa", sum := "c027c170af19d8932b348cc96b2cff6c3702b1b5a65ec92574824dfd9326e40f", func := "terrier/terrierlaw13.RingGrids", spec := "ringGrids", unfollowed := true, recurses := true, apart := false, narrowed := true }
def RingGridsUptoSaid : Prop := ringGridsUptoRow.holds Try.pinned (OpenSpec.upto ringGridsSpec)

end Rows
end Go.Proofs.Ytepnjknblppfcaa
