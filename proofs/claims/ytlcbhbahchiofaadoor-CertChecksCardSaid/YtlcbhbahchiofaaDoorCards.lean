/-
  DERIVED. GIVEN WITH THE SEED: THE CARDS: each row of YtlcbhbahchiofaaDoorRows.lean that lists a variable, with what it lists TIED to the program's text (the seventh form; the later family's looks); each row that meets fmt, with fmt's text TOLD by the authors' own Lean function (tested against real Go, not proved from fmt's source: count such statements apart). THE CARD IS WHAT COUNTS. Prove the row's statement (the work); the ties are given (YtlcbhbahchiofaaDoorTie.lean); close each card by the builder's one call (the guide's Derived/Test/ToyasCard.lean, 'card_holds'). Laid BY PROGRAM, IN A SANDBOX (cutbox-door.mjs). By AI agents, Wed Nov 11 2026. No macro, syntax, notation, axiom, sorry.
-/
import Derived.Test.YtlcbhbahchiofaaDoorRows
import GoSem.ClaimSeven
namespace Go.Proofs.YtlcbhbahchiofaaDoor
namespace Rows

/-- THE TIED CARD OF 'witanlaw08.CertMakes'. -/
def certMakesCard : Claim7 := { stood := { row := certMakesRow, standIns := [], harness := (true, "4fd6755c1aa8ccb3e6127d53b198656d73c4fc383ff95672d0d32172abed4144"), looks := false }, kinds := [], alts := [], laidByText := true, laidKinds := [.data, .data, .data], laidTests := true, laidLooks := .later }
def CertMakesCardSaid : Prop := Claim7.holds Tryd.pinned (.plain (OpenSpec.ofChange certMakesSpec)) certMakesCard

/-- THE TIED CARD OF 'witanlaw08.CertChecks'. -/
def certChecksCard : Claim7 := { stood := { row := certChecksRow, standIns := [], harness := (true, "4fd6755c1aa8ccb3e6127d53b198656d73c4fc383ff95672d0d32172abed4144"), looks := false }, kinds := [], alts := [], laidByText := true, laidKinds := [.data, .data, .data], laidTests := true, laidLooks := .later }
def CertChecksCardSaid : Prop := Claim7.holds Tryd.pinned (.plain (OpenSpec.ofChange certChecksSpec)) certChecksCard

/-- THE TIED CARD OF 'witanlaw08.CertQuorums'. -/
def certQuorumsCard : Claim7 := { stood := { row := certQuorumsRow, standIns := [], harness := (true, "4fd6755c1aa8ccb3e6127d53b198656d73c4fc383ff95672d0d32172abed4144"), looks := false }, kinds := [], alts := [], laidByText := true, laidKinds := [.data, .data, .data], laidTests := true, laidLooks := .later }
def CertQuorumsCardSaid : Prop := Claim7.holds Tryd.pinned (.plain (OpenSpec.ofChange certQuorumsSpec)) certQuorumsCard

/-- THE SECOND FORM's CARD OF 'witanlaw08.CertMakes'. -/
def certMakesUptoCard : Claim7 := { stood := { row := certMakesUptoRow, standIns := [], harness := (true, "4fd6755c1aa8ccb3e6127d53b198656d73c4fc383ff95672d0d32172abed4144"), looks := false }, kinds := [], alts := [], laidByText := true, laidKinds := [.data, .data, .data], laidTests := true, laidLooks := .later }
def CertMakesUptoCardSaid : Prop := Claim7.holds Tryd.pinned (.plain (OpenSpec.upto certMakesSpec)) certMakesUptoCard

/-- THE SECOND FORM's CARD OF 'witanlaw08.CertChecks'. -/
def certChecksUptoCard : Claim7 := { stood := { row := certChecksUptoRow, standIns := [], harness := (true, "4fd6755c1aa8ccb3e6127d53b198656d73c4fc383ff95672d0d32172abed4144"), looks := false }, kinds := [], alts := [], laidByText := true, laidKinds := [.data, .data, .data], laidTests := true, laidLooks := .later }
def CertChecksUptoCardSaid : Prop := Claim7.holds Tryd.pinned (.plain (OpenSpec.upto certChecksSpec)) certChecksUptoCard

/-- THE SECOND FORM's CARD OF 'witanlaw08.CertQuorums'. -/
def certQuorumsUptoCard : Claim7 := { stood := { row := certQuorumsUptoRow, standIns := [], harness := (true, "4fd6755c1aa8ccb3e6127d53b198656d73c4fc383ff95672d0d32172abed4144"), looks := false }, kinds := [], alts := [], laidByText := true, laidKinds := [.data, .data, .data], laidTests := true, laidLooks := .later }
def CertQuorumsUptoCardSaid : Prop := Claim7.holds Tryd.pinned (.plain (OpenSpec.upto certQuorumsSpec)) certQuorumsUptoCard
end Rows
end Go.Proofs.YtlcbhbahchiofaaDoor
