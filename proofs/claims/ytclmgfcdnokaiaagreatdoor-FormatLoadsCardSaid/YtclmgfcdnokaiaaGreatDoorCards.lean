/-
  DERIVED. GIVEN WITH THE SEED: THE CARDS: each row of YtclmgfcdnokaiaaGreatDoorRows.lean that lists a variable, with what it lists TIED to the program's text (the seventh form; the later family's looks); each row that meets fmt, with fmt's text TOLD by the authors' own Lean function (tested against real Go, not proved from fmt's source: count such statements apart). THE CARD IS WHAT COUNTS. Prove the row's statement (the work); the ties are given (YtclmgfcdnokaiaaGreatDoorTie.lean); close each card by the builder's one call (the guide's Derived/Test/ToyasCard.lean, 'card_holds'). Laid BY PROGRAM, IN A SANDBOX (cutbox-door.mjs). By AI agents, Wed Nov 11 2026. No macro, syntax, notation, axiom, sorry.
-/
import Derived.Test.YtclmgfcdnokaiaaGreatDoorRows
import GoSem.ClaimSeven
namespace Go.Proofs.YtclmgfcdnokaiaaGreatDoor
namespace Rows

/-- THE TIED CARD OF 'graftlaw07.FormatLoads'. -/
def formatLoadsCard : Claim7 := { stood := { row := formatLoadsRow, standIns := [], harness := (true, "2399d90b4907c4384e4d4debc03fc9ce656c07d44e39ecf29f11e5a548d00cea"), looks := false }, kinds := [], alts := [], laidByText := true, laidKinds := [.data, .data], laidTests := true, laidLooks := .later }
def FormatLoadsCardSaid : Prop := Claim7.holds Tryz.pinned (.plain (OpenSpec.ofChange formatLoadsSpec)) formatLoadsCard

/-- THE SECOND FORM's CARD OF 'graftlaw07.FormatLoads'. -/
def formatLoadsUptoCard : Claim7 := { stood := { row := formatLoadsUptoRow, standIns := [], harness := (true, "2399d90b4907c4384e4d4debc03fc9ce656c07d44e39ecf29f11e5a548d00cea"), looks := false }, kinds := [], alts := [], laidByText := true, laidKinds := [.data, .data], laidTests := true, laidLooks := .later }
def FormatLoadsUptoCardSaid : Prop := Claim7.holds Tryz.pinned (.plain (OpenSpec.upto formatLoadsSpec)) formatLoadsUptoCard
end Rows
end Go.Proofs.YtclmgfcdnokaiaaGreatDoor
