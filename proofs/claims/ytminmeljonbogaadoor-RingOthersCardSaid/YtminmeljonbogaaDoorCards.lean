/-
  DERIVED. GIVEN WITH THE SEED: THE CARDS: each row of YtminmeljonbogaaDoorRows.lean that lists a variable, with what it lists TIED to the program's text (the seventh form; the later family's looks); each row that meets fmt, with fmt's text TOLD by the authors' own Lean function (tested against real Go, not proved from fmt's source: count such statements apart). THE CARD IS WHAT COUNTS. Prove the row's statement (the work); the ties are given (YtminmeljonbogaaDoorTie.lean); close each card by the builder's one call (the guide's Derived/Test/ToyasCard.lean, 'card_holds'). Laid BY PROGRAM, IN A SANDBOX (cutbox-door.mjs). By AI agents, Wed Nov 11 2026. No macro, syntax, notation, axiom, sorry.
-/
import Derived.Test.YtminmeljonbogaaDoorRows
import GoSem.ClaimSeven
namespace Go.Proofs.YtminmeljonbogaaDoor
namespace Rows

/-- THE TIED CARD OF 'witanlaw06.SignMakes'. -/
def signMakesCard : Claim7 := { stood := { row := signMakesRow, standIns := [], harness := (true, "3e2cda7474168c408b64aa4260c01f01ee44b7166f74b7648b8fdde9ccc9929b"), looks := false }, kinds := [], alts := [], laidByText := true, laidKinds := [.data, .data, .data], laidTests := true, laidLooks := .later }
def SignMakesCardSaid : Prop := Claim7.holds Tryd.pinned (.plain (OpenSpec.ofChange signMakesSpec)) signMakesCard

/-- THE TIED CARD OF 'witanlaw06.SignReads'. -/
def signReadsCard : Claim7 := { stood := { row := signReadsRow, standIns := [], harness := (true, "3e2cda7474168c408b64aa4260c01f01ee44b7166f74b7648b8fdde9ccc9929b"), looks := false }, kinds := [], alts := [], laidByText := true, laidKinds := [.data, .data, .data], laidTests := true, laidLooks := .later }
def SignReadsCardSaid : Prop := Claim7.holds Tryd.pinned (.plain (OpenSpec.ofChange signReadsSpec)) signReadsCard

/-- THE TIED CARD OF 'witanlaw07.RingMakes'. -/
def ringMakesCard : Claim7 := { stood := { row := ringMakesRow, standIns := [], harness := (true, "3e2cda7474168c408b64aa4260c01f01ee44b7166f74b7648b8fdde9ccc9929b"), looks := false }, kinds := [], alts := [], laidByText := true, laidKinds := [.data, .data, .data], laidTests := true, laidLooks := .later }
def RingMakesCardSaid : Prop := Claim7.holds Tryd.pinned (.plain (OpenSpec.ofChange ringMakesSpec)) ringMakesCard

/-- THE TIED CARD OF 'witanlaw07.RingOthers'. -/
def ringOthersCard : Claim7 := { stood := { row := ringOthersRow, standIns := [], harness := (true, "3e2cda7474168c408b64aa4260c01f01ee44b7166f74b7648b8fdde9ccc9929b"), looks := false }, kinds := [], alts := [], laidByText := true, laidKinds := [.data, .data, .data], laidTests := true, laidLooks := .later }
def RingOthersCardSaid : Prop := Claim7.holds Tryd.pinned (.plain (OpenSpec.ofChange ringOthersSpec)) ringOthersCard

/-- THE SECOND FORM's CARD OF 'witanlaw06.SignMakes'. -/
def signMakesUptoCard : Claim7 := { stood := { row := signMakesUptoRow, standIns := [], harness := (true, "3e2cda7474168c408b64aa4260c01f01ee44b7166f74b7648b8fdde9ccc9929b"), looks := false }, kinds := [], alts := [], laidByText := true, laidKinds := [.data, .data, .data], laidTests := true, laidLooks := .later }
def SignMakesUptoCardSaid : Prop := Claim7.holds Tryd.pinned (.plain (OpenSpec.upto signMakesSpec)) signMakesUptoCard

/-- THE SECOND FORM's CARD OF 'witanlaw06.SignReads'. -/
def signReadsUptoCard : Claim7 := { stood := { row := signReadsUptoRow, standIns := [], harness := (true, "3e2cda7474168c408b64aa4260c01f01ee44b7166f74b7648b8fdde9ccc9929b"), looks := false }, kinds := [], alts := [], laidByText := true, laidKinds := [.data, .data, .data], laidTests := true, laidLooks := .later }
def SignReadsUptoCardSaid : Prop := Claim7.holds Tryd.pinned (.plain (OpenSpec.upto signReadsSpec)) signReadsUptoCard

/-- THE SECOND FORM's CARD OF 'witanlaw07.RingMakes'. -/
def ringMakesUptoCard : Claim7 := { stood := { row := ringMakesUptoRow, standIns := [], harness := (true, "3e2cda7474168c408b64aa4260c01f01ee44b7166f74b7648b8fdde9ccc9929b"), looks := false }, kinds := [], alts := [], laidByText := true, laidKinds := [.data, .data, .data], laidTests := true, laidLooks := .later }
def RingMakesUptoCardSaid : Prop := Claim7.holds Tryd.pinned (.plain (OpenSpec.upto ringMakesSpec)) ringMakesUptoCard

/-- THE SECOND FORM's CARD OF 'witanlaw07.RingOthers'. -/
def ringOthersUptoCard : Claim7 := { stood := { row := ringOthersUptoRow, standIns := [], harness := (true, "3e2cda7474168c408b64aa4260c01f01ee44b7166f74b7648b8fdde9ccc9929b"), looks := false }, kinds := [], alts := [], laidByText := true, laidKinds := [.data, .data, .data], laidTests := true, laidLooks := .later }
def RingOthersUptoCardSaid : Prop := Claim7.holds Tryd.pinned (.plain (OpenSpec.upto ringOthersSpec)) ringOthersUptoCard
end Rows
end Go.Proofs.YtminmeljonbogaaDoor
