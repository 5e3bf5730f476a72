/-
  DERIVED. GIVEN WITH THE SEED: THE CARDS: each row of YtegddcklbmonfaaDoorRows.lean that lists a variable, with what it lists TIED to the program's text (the seventh form; the later family's looks); each row that meets fmt, with fmt's text TOLD by the authors' own Lean function (tested against real Go, not proved from fmt's source: count such statements apart). THE CARD IS WHAT COUNTS. Prove the row's statement (the work); the ties are given (YtegddcklbmonfaaDoorTie.lean); close each card by the builder's one call (the guide's Derived/Test/ToyasCard.lean, 'card_holds'). Laid BY PROGRAM, IN A SANDBOX (cutbox-door.mjs). By AI agents, Wed Nov 11 2026. No macro, syntax, notation, axiom, sorry.
-/
import Derived.Test.YtegddcklbmonfaaDoorRows
import GoSem.ClaimSeven
namespace Go.Proofs.YtegddcklbmonfaaDoor
namespace Rows

/-- THE TIED CARD OF 'graftlaw08.PatchLeads'. -/
def patchLeadsCard : Claim7 := { stood := { row := patchLeadsRow, standIns := [], harness := (true, "1a1c34c91ecf46124ce0f9c046a8b42c27f626d5da71694725f9f498f4c332eb"), looks := false }, kinds := [], alts := [], laidByText := true, laidKinds := [.data, .data], laidTests := true, laidLooks := .later }
def PatchLeadsCardSaid : Prop := Claim7.holds Tryd.pinned (.plain (OpenSpec.ofChange patchLeadsSpec)) patchLeadsCard

/-- THE SECOND FORM's CARD OF 'graftlaw08.PatchLeads'. -/
def patchLeadsUptoCard : Claim7 := { stood := { row := patchLeadsUptoRow, standIns := [], harness := (true, "1a1c34c91ecf46124ce0f9c046a8b42c27f626d5da71694725f9f498f4c332eb"), looks := false }, kinds := [], alts := [], laidByText := true, laidKinds := [.data, .data], laidTests := true, laidLooks := .later }
def PatchLeadsUptoCardSaid : Prop := Claim7.holds Tryd.pinned (.plain (OpenSpec.upto patchLeadsSpec)) patchLeadsUptoCard
end Rows
end Go.Proofs.YtegddcklbmonfaaDoor
