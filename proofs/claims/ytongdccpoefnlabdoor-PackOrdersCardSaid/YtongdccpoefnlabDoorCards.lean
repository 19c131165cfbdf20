/-
  DERIVED. GIVEN WITH THE SEED: THE CARDS: each row of YtongdccpoefnlabDoorRows.lean that lists a variable, with what it lists TIED to the program's text (the seventh form; the later family's looks); each row that meets fmt, with fmt's text TOLD by the authors' own Lean function (tested against real Go, not proved from fmt's source: count such statements apart). THE CARD IS WHAT COUNTS. Prove the row's statement (the work); the ties are given (YtongdccpoefnlabDoorTie.lean); close each card by the builder's one call (the guide's Derived/Test/ToyasCard.lean, 'card_holds'). Laid BY PROGRAM, IN A SANDBOX (cutbox-door.mjs). By AI agents, Wed Nov 11 2026. No macro, syntax, notation, axiom, sorry.
-/
import Derived.Test.YtongdccpoefnlabDoorRows
import GoSem.ClaimSeven
namespace Go.Proofs.YtongdccpoefnlabDoor
namespace Rows

/-- THE TIED CARD OF 'terrierlaw1.PackOrders'. -/
def packOrdersCard : Claim7 := { stood := { row := packOrdersRow, standIns := [], harness := (true, "8df2081618c1d0180562952e01e1293053e7b44de81b088d6b26ecdc4d2108f6"), looks := false }, kinds := [], alts := [], laidByText := true, laidKinds := [.data], laidTests := true, laidLooks := .later }
def PackOrdersCardSaid : Prop := Claim7.holds Tryd.pinned (.plain (OpenSpec.ofChange packOrdersSpec)) packOrdersCard

/-- THE SECOND FORM's CARD OF 'terrierlaw1.PackOrders'. -/
def packOrdersUptoCard : Claim7 := { stood := { row := packOrdersUptoRow, standIns := [], harness := (true, "8df2081618c1d0180562952e01e1293053e7b44de81b088d6b26ecdc4d2108f6"), looks := false }, kinds := [], alts := [], laidByText := true, laidKinds := [.data], laidTests := true, laidLooks := .later }
def PackOrdersUptoCardSaid : Prop := Claim7.holds Tryd.pinned (.plain (OpenSpec.upto packOrdersSpec)) packOrdersUptoCard
end Rows
end Go.Proofs.YtongdccpoefnlabDoor
