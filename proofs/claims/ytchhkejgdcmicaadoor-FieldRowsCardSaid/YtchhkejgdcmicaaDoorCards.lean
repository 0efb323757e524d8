/-
  DERIVED. GIVEN WITH THE SEED: THE CARDS: each row of YtchhkejgdcmicaaDoorRows.lean that lists a variable, with what it lists TIED to the program's text (the seventh form; the later family's looks); each row that meets fmt, with fmt's text TOLD by the authors' own Lean function (tested against real Go, not proved from fmt's source: count such statements apart). THE CARD IS WHAT COUNTS. Prove the row's statement (the work); the ties are given (YtchhkejgdcmicaaDoorTie.lean); close each card by the builder's one call (the guide's Derived/Test/ToyasCard.lean, 'card_holds'). Laid BY PROGRAM, IN A SANDBOX (cutbox-door.mjs). By AI agents, Wed Nov 11 2026. No macro, syntax, notation, axiom, sorry.
-/
import Derived.Test.YtchhkejgdcmicaaDoorRows
import GoSem.ClaimSeven
namespace Go.Proofs.YtchhkejgdcmicaaDoor
namespace Rows

/-- THE TIED CARD OF 'witanlaw03.FieldOps'. -/
def fieldOpsCard : Claim7 := { stood := { row := fieldOpsRow, standIns := [], harness := (true, "a97cca4876ad88ebb6c6ed0496c6df6d1f88094df9a46a48760b0357cc462b5f"), looks := false }, kinds := [], alts := [], laidByText := true, laidKinds := [.data], laidTests := true, laidLooks := .later }
def FieldOpsCardSaid : Prop := Claim7.holds Tryd.pinned (.plain (OpenSpec.ofChange fieldOpsSpec)) fieldOpsCard

/-- THE TIED CARD OF 'witanlaw03.FieldNews'. -/
def fieldNewsCard : Claim7 := { stood := { row := fieldNewsRow, standIns := [], harness := (true, "a97cca4876ad88ebb6c6ed0496c6df6d1f88094df9a46a48760b0357cc462b5f"), looks := false }, kinds := [], alts := [], laidByText := true, laidKinds := [.data], laidTests := true, laidLooks := .later }
def FieldNewsCardSaid : Prop := Claim7.holds Tryd.pinned (.plain (OpenSpec.ofChange fieldNewsSpec)) fieldNewsCard

/-- THE TIED CARD OF 'witanlaw03.FieldInv'. -/
def fieldInvCard : Claim7 := { stood := { row := fieldInvRow, standIns := [], harness := (true, "a97cca4876ad88ebb6c6ed0496c6df6d1f88094df9a46a48760b0357cc462b5f"), looks := false }, kinds := [], alts := [], laidByText := true, laidKinds := [.data], laidTests := true, laidLooks := .later }
def FieldInvCardSaid : Prop := Claim7.holds Tryd.pinned (.plain (OpenSpec.ofChange fieldInvSpec)) fieldInvCard

/-- THE TIED CARD OF 'witanlaw03.FieldLaws'. -/
def fieldLawsCard : Claim7 := { stood := { row := fieldLawsRow, standIns := [], harness := (true, "a97cca4876ad88ebb6c6ed0496c6df6d1f88094df9a46a48760b0357cc462b5f"), looks := false }, kinds := [], alts := [], laidByText := true, laidKinds := [.data], laidTests := true, laidLooks := .later }
def FieldLawsCardSaid : Prop := Claim7.holds Tryd.pinned (.plain (OpenSpec.ofChange fieldLawsSpec)) fieldLawsCard

/-- THE TIED CARD OF 'witanlaw03.FieldRows'. -/
def fieldRowsCard : Claim7 := { stood := { row := fieldRowsRow, standIns := [], harness := (true, "a97cca4876ad88ebb6c6ed0496c6df6d1f88094df9a46a48760b0357cc462b5f"), looks := false }, kinds := [], alts := [], laidByText := true, laidKinds := [.data], laidTests := true, laidLooks := .later }
def FieldRowsCardSaid : Prop := Claim7.holds Tryd.pinned (.plain (OpenSpec.ofChange fieldRowsSpec)) fieldRowsCard

/-- THE TIED CARD OF 'witanlaw03.FieldRoots'. -/
def fieldRootsCard : Claim7 := { stood := { row := fieldRootsRow, standIns := [], harness := (true, "a97cca4876ad88ebb6c6ed0496c6df6d1f88094df9a46a48760b0357cc462b5f"), looks := false }, kinds := [], alts := [], laidByText := true, laidKinds := [.data], laidTests := true, laidLooks := .later }
def FieldRootsCardSaid : Prop := Claim7.holds Tryd.pinned (.plain (OpenSpec.ofChange fieldRootsSpec)) fieldRootsCard

/-- THE TIED CARD OF 'witanlaw03.FieldPowers'. -/
def fieldPowersCard : Claim7 := { stood := { row := fieldPowersRow, standIns := [], harness := (true, "a97cca4876ad88ebb6c6ed0496c6df6d1f88094df9a46a48760b0357cc462b5f"), looks := false }, kinds := [], alts := [], laidByText := true, laidKinds := [.data], laidTests := true, laidLooks := .later }
def FieldPowersCardSaid : Prop := Claim7.holds Tryd.pinned (.plain (OpenSpec.ofChange fieldPowersSpec)) fieldPowersCard

/-- THE TIED CARD OF 'witanlaw03.FieldSmall'. -/
def fieldSmallCard : Claim7 := { stood := { row := fieldSmallRow, standIns := [], harness := (true, "a97cca4876ad88ebb6c6ed0496c6df6d1f88094df9a46a48760b0357cc462b5f"), looks := false }, kinds := [], alts := [], laidByText := true, laidKinds := [.data], laidTests := true, laidLooks := .later }
def FieldSmallCardSaid : Prop := Claim7.holds Tryd.pinned (.plain (OpenSpec.ofChange fieldSmallSpec)) fieldSmallCard

/-- THE SECOND FORM's CARD OF 'witanlaw03.FieldOps'. -/
def fieldOpsUptoCard : Claim7 := { stood := { row := fieldOpsUptoRow, standIns := [], harness := (true, "a97cca4876ad88ebb6c6ed0496c6df6d1f88094df9a46a48760b0357cc462b5f"), looks := false }, kinds := [], alts := [], laidByText := true, laidKinds := [.data], laidTests := true, laidLooks := .later }
def FieldOpsUptoCardSaid : Prop := Claim7.holds Tryd.pinned (.plain (OpenSpec.upto fieldOpsSpec)) fieldOpsUptoCard

/-- THE SECOND FORM's CARD OF 'witanlaw03.FieldNews'. -/
def fieldNewsUptoCard : Claim7 := { stood := { row := fieldNewsUptoRow, standIns := [], harness := (true, "a97cca4876ad88ebb6c6ed0496c6df6d1f88094df9a46a48760b0357cc462b5f"), looks := false }, kinds := [], alts := [], laidByText := true, laidKinds := [.data], laidTests := true, laidLooks := .later }
def FieldNewsUptoCardSaid : Prop := Claim7.holds Tryd.pinned (.plain (OpenSpec.upto fieldNewsSpec)) fieldNewsUptoCard

/-- THE SECOND FORM's CARD OF 'witanlaw03.FieldInv'. -/
def fieldInvUptoCard : Claim7 := { stood := { row := fieldInvUptoRow, standIns := [], harness := (true, "a97cca4876ad88ebb6c6ed0496c6df6d1f88094df9a46a48760b0357cc462b5f"), looks := false }, kinds := [], alts := [], laidByText := true, laidKinds := [.data], laidTests := true, laidLooks := .later }
def FieldInvUptoCardSaid : Prop := Claim7.holds Tryd.pinned (.plain (OpenSpec.upto fieldInvSpec)) fieldInvUptoCard

/-- THE SECOND FORM's CARD OF 'witanlaw03.FieldLaws'. -/
def fieldLawsUptoCard : Claim7 := { stood := { row := fieldLawsUptoRow, standIns := [], harness := (true, "a97cca4876ad88ebb6c6ed0496c6df6d1f88094df9a46a48760b0357cc462b5f"), looks := false }, kinds := [], alts := [], laidByText := true, laidKinds := [.data], laidTests := true, laidLooks := .later }
def FieldLawsUptoCardSaid : Prop := Claim7.holds Tryd.pinned (.plain (OpenSpec.upto fieldLawsSpec)) fieldLawsUptoCard

/-- THE SECOND FORM's CARD OF 'witanlaw03.FieldRows'. -/
def fieldRowsUptoCard : Claim7 := { stood := { row := fieldRowsUptoRow, standIns := [], harness := (true, "a97cca4876ad88ebb6c6ed0496c6df6d1f88094df9a46a48760b0357cc462b5f"), looks := false }, kinds := [], alts := [], laidByText := true, laidKinds := [.data], laidTests := true, laidLooks := .later }
def FieldRowsUptoCardSaid : Prop := Claim7.holds Tryd.pinned (.plain (OpenSpec.upto fieldRowsSpec)) fieldRowsUptoCard

/-- THE SECOND FORM's CARD OF 'witanlaw03.FieldRoots'. -/
def fieldRootsUptoCard : Claim7 := { stood := { row := fieldRootsUptoRow, standIns := [], harness := (true, "a97cca4876ad88ebb6c6ed0496c6df6d1f88094df9a46a48760b0357cc462b5f"), looks := false }, kinds := [], alts := [], laidByText := true, laidKinds := [.data], laidTests := true, laidLooks := .later }
def FieldRootsUptoCardSaid : Prop := Claim7.holds Tryd.pinned (.plain (OpenSpec.upto fieldRootsSpec)) fieldRootsUptoCard

/-- THE SECOND FORM's CARD OF 'witanlaw03.FieldPowers'. -/
def fieldPowersUptoCard : Claim7 := { stood := { row := fieldPowersUptoRow, standIns := [], harness := (true, "a97cca4876ad88ebb6c6ed0496c6df6d1f88094df9a46a48760b0357cc462b5f"), looks := false }, kinds := [], alts := [], laidByText := true, laidKinds := [.data], laidTests := true, laidLooks := .later }
def FieldPowersUptoCardSaid : Prop := Claim7.holds Tryd.pinned (.plain (OpenSpec.upto fieldPowersSpec)) fieldPowersUptoCard

/-- THE SECOND FORM's CARD OF 'witanlaw03.FieldSmall'. -/
def fieldSmallUptoCard : Claim7 := { stood := { row := fieldSmallUptoRow, standIns := [], harness := (true, "a97cca4876ad88ebb6c6ed0496c6df6d1f88094df9a46a48760b0357cc462b5f"), looks := false }, kinds := [], alts := [], laidByText := true, laidKinds := [.data], laidTests := true, laidLooks := .later }
def FieldSmallUptoCardSaid : Prop := Claim7.holds Tryd.pinned (.plain (OpenSpec.upto fieldSmallSpec)) fieldSmallUptoCard
end Rows
end Go.Proofs.YtchhkejgdcmicaaDoor
