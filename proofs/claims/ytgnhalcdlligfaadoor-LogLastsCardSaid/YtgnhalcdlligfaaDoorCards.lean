/-
  DERIVED. GIVEN WITH THE SEED: THE CARDS: each row of YtgnhalcdlligfaaDoorRows.lean that lists a variable, with what it lists TIED to the program's text (the seventh form; the later family's looks); each row that meets fmt, with fmt's text TOLD by the authors' own Lean function (tested against real Go, not proved from fmt's source: count such statements apart). THE CARD IS WHAT COUNTS. Prove the row's statement (the work); the ties are given (YtgnhalcdlligfaaDoorTie.lean); close each card by the builder's one call (the guide's Derived/Test/ToyasCard.lean, 'card_holds'). Laid BY PROGRAM, IN A SANDBOX (cutbox-door.mjs). By AI agents, Wed Nov 11 2026. No macro, syntax, notation, axiom, sorry.
-/
import Derived.Test.YtgnhalcdlligfaaDoorRows
import GoSem.ClaimSeven
namespace Go.Proofs.YtgnhalcdlligfaaDoor
namespace Rows

/-- THE TIED CARD OF 'terrierlaw4.LogLasts'. -/
def logLastsCard : Claim7 := { stood := { row := logLastsRow, standIns := [], harness := (true, "f9a8e35c7d7d6bc7aa03ba5c7de61f8f58a0e15d69f8f00fd625735c6fe7b76e"), looks := false }, kinds := [], alts := [], laidByText := true, laidKinds := [.data], laidTests := true, laidLooks := .later }
def LogLastsCardSaid : Prop := Claim7.holds Tryd.pinned (.plain (OpenSpec.ofChange logLastsSpec)) logLastsCard

/-- THE TIED CARD OF 'terrierlaw4.LogPlays'. -/
def logPlaysCard : Claim7 := { stood := { row := logPlaysRow, standIns := [], harness := (true, "f9a8e35c7d7d6bc7aa03ba5c7de61f8f58a0e15d69f8f00fd625735c6fe7b76e"), looks := false }, kinds := [], alts := [], laidByText := true, laidKinds := [.data], laidTests := true, laidLooks := .later }
def LogPlaysCardSaid : Prop := Claim7.holds Tryd.pinned (.plain (OpenSpec.ofChange logPlaysSpec)) logPlaysCard

/-- THE TIED CARD OF 'terrierlaw4.LogRounds'. -/
def logRoundsCard : Claim7 := { stood := { row := logRoundsRow, standIns := [], harness := (true, "f9a8e35c7d7d6bc7aa03ba5c7de61f8f58a0e15d69f8f00fd625735c6fe7b76e"), looks := false }, kinds := [], alts := [], laidByText := true, laidKinds := [.data], laidTests := true, laidLooks := .later }
def LogRoundsCardSaid : Prop := Claim7.holds Tryd.pinned (.plain (OpenSpec.ofChange logRoundsSpec)) logRoundsCard

/-- THE TIED CARD OF 'terrierlaw4.LogBounds'. -/
def logBoundsCard : Claim7 := { stood := { row := logBoundsRow, standIns := [], harness := (true, "f9a8e35c7d7d6bc7aa03ba5c7de61f8f58a0e15d69f8f00fd625735c6fe7b76e"), looks := false }, kinds := [], alts := [], laidByText := true, laidKinds := [.data], laidTests := true, laidLooks := .later }
def LogBoundsCardSaid : Prop := Claim7.holds Tryd.pinned (.plain (OpenSpec.ofChange logBoundsSpec)) logBoundsCard

/-- THE SECOND FORM's CARD OF 'terrierlaw4.LogLasts'. -/
def logLastsUptoCard : Claim7 := { stood := { row := logLastsUptoRow, standIns := [], harness := (true, "f9a8e35c7d7d6bc7aa03ba5c7de61f8f58a0e15d69f8f00fd625735c6fe7b76e"), looks := false }, kinds := [], alts := [], laidByText := true, laidKinds := [.data], laidTests := true, laidLooks := .later }
def LogLastsUptoCardSaid : Prop := Claim7.holds Tryd.pinned (.plain (OpenSpec.upto logLastsSpec)) logLastsUptoCard

/-- THE SECOND FORM's CARD OF 'terrierlaw4.LogPlays'. -/
def logPlaysUptoCard : Claim7 := { stood := { row := logPlaysUptoRow, standIns := [], harness := (true, "f9a8e35c7d7d6bc7aa03ba5c7de61f8f58a0e15d69f8f00fd625735c6fe7b76e"), looks := false }, kinds := [], alts := [], laidByText := true, laidKinds := [.data], laidTests := true, laidLooks := .later }
def LogPlaysUptoCardSaid : Prop := Claim7.holds Tryd.pinned (.plain (OpenSpec.upto logPlaysSpec)) logPlaysUptoCard

/-- THE SECOND FORM's CARD OF 'terrierlaw4.LogRounds'. -/
def logRoundsUptoCard : Claim7 := { stood := { row := logRoundsUptoRow, standIns := [], harness := (true, "f9a8e35c7d7d6bc7aa03ba5c7de61f8f58a0e15d69f8f00fd625735c6fe7b76e"), looks := false }, kinds := [], alts := [], laidByText := true, laidKinds := [.data], laidTests := true, laidLooks := .later }
def LogRoundsUptoCardSaid : Prop := Claim7.holds Tryd.pinned (.plain (OpenSpec.upto logRoundsSpec)) logRoundsUptoCard

/-- THE SECOND FORM's CARD OF 'terrierlaw4.LogBounds'. -/
def logBoundsUptoCard : Claim7 := { stood := { row := logBoundsUptoRow, standIns := [], harness := (true, "f9a8e35c7d7d6bc7aa03ba5c7de61f8f58a0e15d69f8f00fd625735c6fe7b76e"), looks := false }, kinds := [], alts := [], laidByText := true, laidKinds := [.data], laidTests := true, laidLooks := .later }
def LogBoundsUptoCardSaid : Prop := Claim7.holds Tryd.pinned (.plain (OpenSpec.upto logBoundsSpec)) logBoundsUptoCard
end Rows
end Go.Proofs.YtgnhalcdlligfaaDoor
