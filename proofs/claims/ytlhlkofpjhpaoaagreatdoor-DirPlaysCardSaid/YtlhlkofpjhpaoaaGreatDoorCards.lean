/-
  DERIVED. GIVEN WITH THE SEED: THE CARDS: each row of YtlhlkofpjhpaoaaGreatDoorRows.lean that lists a variable, with what it lists TIED to the program's text (the seventh form; the later family's looks); each row that meets fmt, with fmt's text TOLD by the authors' own Lean function (tested against real Go, not proved from fmt's source: count such statements apart). THE CARD IS WHAT COUNTS. Prove the row's statement (the work); the ties are given (YtlhlkofpjhpaoaaGreatDoorTie.lean); close each card by the builder's one call (the guide's Derived/Test/ToyasCard.lean, 'card_holds'). Laid BY PROGRAM, IN A SANDBOX (cutbox-door.mjs). By AI agents, Wed Nov 11 2026. No macro, syntax, notation, axiom, sorry.
-/
import Derived.Test.YtlhlkofpjhpaoaaGreatDoorRows
import GoSem.ClaimSeven
namespace Go.Proofs.YtlhlkofpjhpaoaaGreatDoor
namespace Rows

/-- THE TIED CARD OF 'witanlaw12.DirPlays'. -/
def dirPlaysCard : Claim7 := { stood := { row := dirPlaysRow, standIns := [], harness := (true, "f79586153fd9489f9ea04aa5ffccbe3f318b52fc918d072ae0c3f7bc86c5ae1e"), looks := true }, kinds := [], alts := [], laidByText := true, laidKinds := [.data, .data, .data], laidTests := true, laidLooks := .later }
def DirPlaysCardSaid : Prop := Claim7.holds Tryz.pinned (.plain (OpenSpec.ofChange dirPlaysSpec)) dirPlaysCard

/-- THE TIED CARD OF 'witanlaw12.DirAnswers'. -/
def dirAnswersCard : Claim7 := { stood := { row := dirAnswersRow, standIns := [], harness := (true, "f79586153fd9489f9ea04aa5ffccbe3f318b52fc918d072ae0c3f7bc86c5ae1e"), looks := true }, kinds := [], alts := [], laidByText := true, laidKinds := [.data, .data, .data], laidTests := true, laidLooks := .later }
def DirAnswersCardSaid : Prop := Claim7.holds Tryz.pinned (.plain (OpenSpec.ofChange dirAnswersSpec)) dirAnswersCard

/-- THE TIED CARD OF 'witanlaw12.DirBuilds'. -/
def dirBuildsCard : Claim7 := { stood := { row := dirBuildsRow, standIns := [], harness := (true, "f79586153fd9489f9ea04aa5ffccbe3f318b52fc918d072ae0c3f7bc86c5ae1e"), looks := true }, kinds := [], alts := [], laidByText := true, laidKinds := [.data, .data, .data], laidTests := true, laidLooks := .later }
def DirBuildsCardSaid : Prop := Claim7.holds Tryz.pinned (.plain (OpenSpec.ofChange dirBuildsSpec)) dirBuildsCard

/-- THE TIED CARD OF 'witanlaw12.DirOrder'. -/
def dirOrderCard : Claim7 := { stood := { row := dirOrderRow, standIns := [], harness := (true, "f79586153fd9489f9ea04aa5ffccbe3f318b52fc918d072ae0c3f7bc86c5ae1e"), looks := true }, kinds := [], alts := [], laidByText := true, laidKinds := [.data, .data, .data], laidTests := true, laidLooks := .later }
def DirOrderCardSaid : Prop := Claim7.holds Tryz.pinned (.plain (OpenSpec.ofChange dirOrderSpec)) dirOrderCard

/-- THE SECOND FORM's CARD OF 'witanlaw12.DirPlays'. -/
def dirPlaysUptoCard : Claim7 := { stood := { row := dirPlaysUptoRow, standIns := [], harness := (true, "f79586153fd9489f9ea04aa5ffccbe3f318b52fc918d072ae0c3f7bc86c5ae1e"), looks := true }, kinds := [], alts := [], laidByText := true, laidKinds := [.data, .data, .data], laidTests := true, laidLooks := .later }
def DirPlaysUptoCardSaid : Prop := Claim7.holds Tryz.pinned (.plain (OpenSpec.upto dirPlaysSpec)) dirPlaysUptoCard

/-- THE SECOND FORM's CARD OF 'witanlaw12.DirAnswers'. -/
def dirAnswersUptoCard : Claim7 := { stood := { row := dirAnswersUptoRow, standIns := [], harness := (true, "f79586153fd9489f9ea04aa5ffccbe3f318b52fc918d072ae0c3f7bc86c5ae1e"), looks := true }, kinds := [], alts := [], laidByText := true, laidKinds := [.data, .data, .data], laidTests := true, laidLooks := .later }
def DirAnswersUptoCardSaid : Prop := Claim7.holds Tryz.pinned (.plain (OpenSpec.upto dirAnswersSpec)) dirAnswersUptoCard

/-- THE SECOND FORM's CARD OF 'witanlaw12.DirBuilds'. -/
def dirBuildsUptoCard : Claim7 := { stood := { row := dirBuildsUptoRow, standIns := [], harness := (true, "f79586153fd9489f9ea04aa5ffccbe3f318b52fc918d072ae0c3f7bc86c5ae1e"), looks := true }, kinds := [], alts := [], laidByText := true, laidKinds := [.data, .data, .data], laidTests := true, laidLooks := .later }
def DirBuildsUptoCardSaid : Prop := Claim7.holds Tryz.pinned (.plain (OpenSpec.upto dirBuildsSpec)) dirBuildsUptoCard

/-- THE SECOND FORM's CARD OF 'witanlaw12.DirOrder'. -/
def dirOrderUptoCard : Claim7 := { stood := { row := dirOrderUptoRow, standIns := [], harness := (true, "f79586153fd9489f9ea04aa5ffccbe3f318b52fc918d072ae0c3f7bc86c5ae1e"), looks := true }, kinds := [], alts := [], laidByText := true, laidKinds := [.data, .data, .data], laidTests := true, laidLooks := .later }
def DirOrderUptoCardSaid : Prop := Claim7.holds Tryz.pinned (.plain (OpenSpec.upto dirOrderSpec)) dirOrderUptoCard
end Rows
end Go.Proofs.YtlhlkofpjhpaoaaGreatDoor
