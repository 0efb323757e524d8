/-
  DERIVED. GIVEN WITH THE SEED: THE CARDS: each row of YtfkchihlchlfdaaGreatDoorRows.lean that lists a variable, with what it lists TIED to the program's text (the seventh form; the later family's looks); each row that meets fmt, with fmt's text TOLD by the authors' own Lean function (tested against real Go, not proved from fmt's source: count such statements apart). THE CARD IS WHAT COUNTS. Prove the row's statement (the work); the ties are given (YtfkchihlchlfdaaGreatDoorTie.lean); close each card by the builder's one call (the guide's Derived/Test/ToyasCard.lean, 'card_holds'). Laid BY PROGRAM, IN A SANDBOX (cutbox-door.mjs). By AI agents, Wed Nov 11 2026. No macro, syntax, notation, axiom, sorry.
-/
import Derived.Test.YtfkchihlchlfdaaGreatDoorRows
import GoSem.ClaimSeven
namespace Go.Proofs.YtfkchihlchlfdaaGreatDoor
namespace Rows

/-- THE TIED CARD OF 'witanlaw11.HistBytes'. -/
def histBytesCard : Claim7 := { stood := { row := histBytesRow, standIns := [], harness := (true, "226acb8e78df2001fa9d0a1e55b0856a6f90f77db1a67b4f127cd5ee4b8287b2"), looks := false }, kinds := [], alts := [], laidByText := true, laidKinds := [.data, .data, .data], laidTests := true, laidLooks := .later }
def HistBytesCardSaid : Prop := Claim7.holds Tryz.pinned (.plain (OpenSpec.ofChange histBytesSpec)) histBytesCard

/-- THE SECOND FORM's CARD OF 'witanlaw11.HistBytes'. -/
def histBytesUptoCard : Claim7 := { stood := { row := histBytesUptoRow, standIns := [], harness := (true, "226acb8e78df2001fa9d0a1e55b0856a6f90f77db1a67b4f127cd5ee4b8287b2"), looks := false }, kinds := [], alts := [], laidByText := true, laidKinds := [.data, .data, .data], laidTests := true, laidLooks := .later }
def HistBytesUptoCardSaid : Prop := Claim7.holds Tryz.pinned (.plain (OpenSpec.upto histBytesSpec)) histBytesUptoCard
end Rows
end Go.Proofs.YtfkchihlchlfdaaGreatDoor
