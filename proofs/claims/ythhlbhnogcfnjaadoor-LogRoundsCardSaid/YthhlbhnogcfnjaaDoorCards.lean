/-
  DERIVED. GIVEN WITH THE SEED: THE CARDS: each row of YthhlbhnogcfnjaaDoorRows.lean that lists a variable, with what it lists TIED to the program's text (the seventh form; the later family's looks); each row that meets fmt, with fmt's text TOLD by the authors' own Lean function (tested against real Go, not proved from fmt's source: count such statements apart). THE CARD IS WHAT COUNTS. Prove the row's statement (the work); the ties are given (YthhlbhnogcfnjaaDoorTie.lean); close each card by the builder's one call (the guide's Derived/Test/ToyasCard.lean, 'card_holds'). Laid BY PROGRAM, IN A SANDBOX (cutbox-door.mjs). By AI agents, Wed Nov 11 2026. No macro, syntax, notation, axiom, sorry.
-/
import Derived.Test.YthhlbhnogcfnjaaDoorRows
import GoSem.ClaimSeven
namespace Go.Proofs.YthhlbhnogcfnjaaDoor
namespace Rows

/-- THE TIED CARD OF 'terrierlaw4.LogRounds'. -/
def logRoundsCard : Claim7 := { stood := { row := logRoundsRow, standIns := [], harness := (true, "bb1cdd9f2472cdbf8251e75263af9e9926ebb6224c8f0663b28d04251c1ec849"), looks := false }, kinds := [], alts := [], laidByText := true, laidKinds := [.data], laidTests := true, laidLooks := .later }
def LogRoundsCardSaid : Prop := Claim7.holds Tryd.pinned (.plain (OpenSpec.ofChange logRoundsSpec)) logRoundsCard

/-- THE SECOND FORM's CARD OF 'terrierlaw4.LogRounds'. -/
def logRoundsUptoCard : Claim7 := { stood := { row := logRoundsUptoRow, standIns := [], harness := (true, "bb1cdd9f2472cdbf8251e75263af9e9926ebb6224c8f0663b28d04251c1ec849"), looks := false }, kinds := [], alts := [], laidByText := true, laidKinds := [.data], laidTests := true, laidLooks := .later }
def LogRoundsUptoCardSaid : Prop := Claim7.holds Tryd.pinned (.plain (OpenSpec.upto logRoundsSpec)) logRoundsUptoCard
end Rows
end Go.Proofs.YthhlbhnogcfnjaaDoor
