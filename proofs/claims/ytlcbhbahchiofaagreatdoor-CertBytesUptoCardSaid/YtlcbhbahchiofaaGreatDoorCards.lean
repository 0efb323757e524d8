/-
  DERIVED. GIVEN WITH THE SEED: THE CARDS: each row of YtlcbhbahchiofaaGreatDoorRows.lean that lists a variable, with what it lists TIED to the program's text (the seventh form; the later family's looks); each row that meets fmt, with fmt's text TOLD by the authors' own Lean function (tested against real Go, not proved from fmt's source: count such statements apart). THE CARD IS WHAT COUNTS. Prove the row's statement (the work); the ties are given (YtlcbhbahchiofaaGreatDoorTie.lean); close each card by the builder's one call (the guide's Derived/Test/ToyasCard.lean, 'card_holds'). Laid BY PROGRAM, IN A SANDBOX (cutbox-door.mjs). By AI agents, Wed Nov 11 2026. No macro, syntax, notation, axiom, sorry.
-/
import Derived.Test.YtlcbhbahchiofaaGreatDoorRows
import GoSem.ClaimSeven
namespace Go.Proofs.YtlcbhbahchiofaaGreatDoor
namespace Rows

/-- THE TIED CARD OF 'witanlaw08.CertBytes'. -/
def certBytesCard : Claim7 := { stood := { row := certBytesRow, standIns := [], harness := (true, "4db1baea87a13f7d29d619b90ca4bcbe9209f016eed7c9c3f09bf359c6c76f5f"), looks := false }, kinds := [], alts := [], laidByText := true, laidKinds := [.data, .data, .data], laidTests := true, laidLooks := .later }
def CertBytesCardSaid : Prop := Claim7.holds Tryz.pinned (.plain (OpenSpec.ofChange certBytesSpec)) certBytesCard

/-- THE SECOND FORM's CARD OF 'witanlaw08.CertBytes'. -/
def certBytesUptoCard : Claim7 := { stood := { row := certBytesUptoRow, standIns := [], harness := (true, "4db1baea87a13f7d29d619b90ca4bcbe9209f016eed7c9c3f09bf359c6c76f5f"), looks := false }, kinds := [], alts := [], laidByText := true, laidKinds := [.data, .data, .data], laidTests := true, laidLooks := .later }
def CertBytesUptoCardSaid : Prop := Claim7.holds Tryz.pinned (.plain (OpenSpec.upto certBytesSpec)) certBytesUptoCard
end Rows
end Go.Proofs.YtlcbhbahchiofaaGreatDoor
