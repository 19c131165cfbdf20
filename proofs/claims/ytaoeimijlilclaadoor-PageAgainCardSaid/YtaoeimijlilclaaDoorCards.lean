/-
  DERIVED. GIVEN WITH THE SEED: THE CARDS: each row of YtaoeimijlilclaaDoorRows.lean that lists a variable, with what it lists TIED to the program's text (the seventh form; the later family's looks); each row that meets fmt, with fmt's text TOLD by the authors' own Lean function (tested against real Go, not proved from fmt's source: count such statements apart). THE CARD IS WHAT COUNTS. Prove the row's statement (the work); the ties are given (YtaoeimijlilclaaDoorTie.lean); close each card by the builder's one call (the guide's Derived/Test/ToyasCard.lean, 'card_holds'). Laid BY PROGRAM, IN A SANDBOX (cutbox-door.mjs). By AI agents, Wed Nov 11 2026. No macro, syntax, notation, axiom, sorry.
-/
import Derived.Test.YtaoeimijlilclaaDoorRows
import GoSem.ClaimSeven
namespace Go.Proofs.YtaoeimijlilclaaDoor
namespace Rows

/-- THE TIED CARD OF 'terrierlaw3.PageAgain'. -/
def pageAgainCard : Claim7 := { stood := { row := pageAgainRow, standIns := [], harness := (true, "610401b1fb373afc0efd6331cc818dfa3eff389b810c8f4bb45ffdf56586cc31"), looks := false }, kinds := [], alts := [], laidByText := true, laidKinds := [.data], laidTests := true, laidLooks := .later }
def PageAgainCardSaid : Prop := Claim7.holds Tryd.pinned (.plain (OpenSpec.ofChange pageAgainSpec)) pageAgainCard

/-- THE TIED CARD OF 'terrierlaw3.PagePlays'. -/
def pagePlaysCard : Claim7 := { stood := { row := pagePlaysRow, standIns := [], harness := (true, "610401b1fb373afc0efd6331cc818dfa3eff389b810c8f4bb45ffdf56586cc31"), looks := false }, kinds := [], alts := [], laidByText := true, laidKinds := [.data], laidTests := true, laidLooks := .later }
def PagePlaysCardSaid : Prop := Claim7.holds Tryd.pinned (.plain (OpenSpec.ofChange pagePlaysSpec)) pagePlaysCard

/-- THE TIED CARD OF 'terrierlaw3.PageEach'. -/
def pageEachCard : Claim7 := { stood := { row := pageEachRow, standIns := [], harness := (true, "610401b1fb373afc0efd6331cc818dfa3eff389b810c8f4bb45ffdf56586cc31"), looks := false }, kinds := [], alts := [], laidByText := true, laidKinds := [.data], laidTests := true, laidLooks := .later }
def PageEachCardSaid : Prop := Claim7.holds Tryd.pinned (.plain (OpenSpec.ofChange pageEachSpec)) pageEachCard

/-- THE TIED CARD OF 'terrierlaw3.PageBounds'. -/
def pageBoundsCard : Claim7 := { stood := { row := pageBoundsRow, standIns := [], harness := (true, "610401b1fb373afc0efd6331cc818dfa3eff389b810c8f4bb45ffdf56586cc31"), looks := false }, kinds := [], alts := [], laidByText := true, laidKinds := [.data], laidTests := true, laidLooks := .later }
def PageBoundsCardSaid : Prop := Claim7.holds Tryd.pinned (.plain (OpenSpec.ofChange pageBoundsSpec)) pageBoundsCard

/-- THE SECOND FORM's CARD OF 'terrierlaw3.PageAgain'. -/
def pageAgainUptoCard : Claim7 := { stood := { row := pageAgainUptoRow, standIns := [], harness := (true, "610401b1fb373afc0efd6331cc818dfa3eff389b810c8f4bb45ffdf56586cc31"), looks := false }, kinds := [], alts := [], laidByText := true, laidKinds := [.data], laidTests := true, laidLooks := .later }
def PageAgainUptoCardSaid : Prop := Claim7.holds Tryd.pinned (.plain (OpenSpec.upto pageAgainSpec)) pageAgainUptoCard

/-- THE SECOND FORM's CARD OF 'terrierlaw3.PagePlays'. -/
def pagePlaysUptoCard : Claim7 := { stood := { row := pagePlaysUptoRow, standIns := [], harness := (true, "610401b1fb373afc0efd6331cc818dfa3eff389b810c8f4bb45ffdf56586cc31"), looks := false }, kinds := [], alts := [], laidByText := true, laidKinds := [.data], laidTests := true, laidLooks := .later }
def PagePlaysUptoCardSaid : Prop := Claim7.holds Tryd.pinned (.plain (OpenSpec.upto pagePlaysSpec)) pagePlaysUptoCard

/-- THE SECOND FORM's CARD OF 'terrierlaw3.PageEach'. -/
def pageEachUptoCard : Claim7 := { stood := { row := pageEachUptoRow, standIns := [], harness := (true, "610401b1fb373afc0efd6331cc818dfa3eff389b810c8f4bb45ffdf56586cc31"), looks := false }, kinds := [], alts := [], laidByText := true, laidKinds := [.data], laidTests := true, laidLooks := .later }
def PageEachUptoCardSaid : Prop := Claim7.holds Tryd.pinned (.plain (OpenSpec.upto pageEachSpec)) pageEachUptoCard

/-- THE SECOND FORM's CARD OF 'terrierlaw3.PageBounds'. -/
def pageBoundsUptoCard : Claim7 := { stood := { row := pageBoundsUptoRow, standIns := [], harness := (true, "610401b1fb373afc0efd6331cc818dfa3eff389b810c8f4bb45ffdf56586cc31"), looks := false }, kinds := [], alts := [], laidByText := true, laidKinds := [.data], laidTests := true, laidLooks := .later }
def PageBoundsUptoCardSaid : Prop := Claim7.holds Tryd.pinned (.plain (OpenSpec.upto pageBoundsSpec)) pageBoundsUptoCard
end Rows
end Go.Proofs.YtaoeimijlilclaaDoor
