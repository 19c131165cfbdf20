/-
  DERIVED. GIVEN WITH THE SEED: THE CARDS: each row of YtkbnjniglngjgaaGreatDoorRows.lean that lists a variable, with what it lists TIED to the program's text (the seventh form; the later family's looks); each row that meets fmt, with fmt's text TOLD by the authors' own Lean function (tested against real Go, not proved from fmt's source: count such statements apart). THE CARD IS WHAT COUNTS. Prove the row's statement (the work); the ties are given (YtkbnjniglngjgaaGreatDoorTie.lean); close each card by the builder's one call (the guide's Derived/Test/ToyasCard.lean, 'card_holds'). Laid BY PROGRAM, IN A SANDBOX (cutbox-door.mjs). By AI agents, Wed Nov 11 2026. No macro, syntax, notation, axiom, sorry.
-/
import Derived.Test.YtkbnjniglngjgaaGreatDoorRows
import GoSem.ClaimSeven
namespace Go.Proofs.YtkbnjniglngjgaaGreatDoor
namespace Rows

/-- THE TIED CARD OF 'terrierlaw5.PoolBounds'. -/
def poolBoundsCard : Claim7 := { stood := { row := poolBoundsRow, standIns := [], harness := (true, "7bbe62125a3264218034c18210501a50488f23e1cc1f6aef06be7c7de688cd0b"), looks := false }, kinds := [], alts := [], laidByText := true, laidKinds := [.data], laidTests := true, laidLooks := .later }
def PoolBoundsCardSaid : Prop := Claim7.holds Tryz.pinned (.plain (OpenSpec.ofChange poolBoundsSpec)) poolBoundsCard

/-- THE SECOND FORM's CARD OF 'terrierlaw5.PoolBounds'. -/
def poolBoundsUptoCard : Claim7 := { stood := { row := poolBoundsUptoRow, standIns := [], harness := (true, "7bbe62125a3264218034c18210501a50488f23e1cc1f6aef06be7c7de688cd0b"), looks := false }, kinds := [], alts := [], laidByText := true, laidKinds := [.data], laidTests := true, laidLooks := .later }
def PoolBoundsUptoCardSaid : Prop := Claim7.holds Tryz.pinned (.plain (OpenSpec.upto poolBoundsSpec)) poolBoundsUptoCard
end Rows
end Go.Proofs.YtkbnjniglngjgaaGreatDoor
