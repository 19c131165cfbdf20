/-
  DERIVED. GIVEN WITH THE SEED: THE CARDS: each row of YtafopokcfkgjiaaDoorRows.lean that lists a variable, with what it lists TIED to the program's text (the seventh form; the later family's looks); each row that meets fmt, with fmt's text TOLD by the authors' own Lean function (tested against real Go, not proved from fmt's source: count such statements apart). THE CARD IS WHAT COUNTS. Prove the row's statement (the work); the ties are given (YtafopokcfkgjiaaDoorTie.lean); close each card by the builder's one call (the guide's Derived/Test/ToyasCard.lean, 'card_holds'). Laid BY PROGRAM, IN A SANDBOX (cutbox-door.mjs). By AI agents, Wed Nov 11 2026. No macro, syntax, notation, axiom, sorry.
-/
import Derived.Test.YtafopokcfkgjiaaDoorRows
import GoSem.ClaimSeven
namespace Go.Proofs.YtafopokcfkgjiaaDoor
namespace Rows

/-- THE TIED CARD OF 'terrierlaw3.PageEach'. -/
def pageEachCard : Claim7 := { stood := { row := pageEachRow, standIns := [], harness := (true, "e3c0d72bb6d804f028d6831e2d56531ab1857bbac3dbec0f3c81209cd1c950e5"), looks := false }, kinds := [], alts := [], laidByText := true, laidKinds := [.data], laidTests := true, laidLooks := .later }
def PageEachCardSaid : Prop := Claim7.holds Tryd.pinned (.plain (OpenSpec.ofChange pageEachSpec)) pageEachCard

/-- THE SECOND FORM's CARD OF 'terrierlaw3.PageEach'. -/
def pageEachUptoCard : Claim7 := { stood := { row := pageEachUptoRow, standIns := [], harness := (true, "e3c0d72bb6d804f028d6831e2d56531ab1857bbac3dbec0f3c81209cd1c950e5"), looks := false }, kinds := [], alts := [], laidByText := true, laidKinds := [.data], laidTests := true, laidLooks := .later }
def PageEachUptoCardSaid : Prop := Claim7.holds Tryd.pinned (.plain (OpenSpec.upto pageEachSpec)) pageEachUptoCard
end Rows
end Go.Proofs.YtafopokcfkgjiaaDoor
