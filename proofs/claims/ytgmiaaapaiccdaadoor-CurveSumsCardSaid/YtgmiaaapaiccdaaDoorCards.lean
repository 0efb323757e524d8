/-
  DERIVED. GIVEN WITH THE SEED: THE CARDS: each row of YtgmiaaapaiccdaaDoorRows.lean that lists a variable, with what it lists TIED to the program's text (the seventh form; the later family's looks); each row that meets fmt, with fmt's text TOLD by the authors' own Lean function (tested against real Go, not proved from fmt's source: count such statements apart). THE CARD IS WHAT COUNTS. Prove the row's statement (the work); the ties are given (YtgmiaaapaiccdaaDoorTie.lean); close each card by the builder's one call (the guide's Derived/Test/ToyasCard.lean, 'card_holds'). Laid BY PROGRAM, IN A SANDBOX (cutbox-door.mjs). By AI agents, Wed Nov 11 2026. No macro, syntax, notation, axiom, sorry.
-/
import Derived.Test.YtgmiaaapaiccdaaDoorRows
import GoSem.ClaimSeven
namespace Go.Proofs.YtgmiaaapaiccdaaDoor
namespace Rows

/-- THE TIED CARD OF 'witanlaw05.CurveReads'. -/
def curveReadsCard : Claim7 := { stood := { row := curveReadsRow, standIns := [], harness := (true, "68e8968b3722d7b2074895315781966719c4b8a7d906a73f62d40c9a3bcd3246"), looks := false }, kinds := [], alts := [], laidByText := true, laidKinds := [.data], laidTests := true, laidLooks := .later }
def CurveReadsCardSaid : Prop := Claim7.holds Tryd.pinned (.plain (OpenSpec.ofChange curveReadsSpec)) curveReadsCard

/-- THE TIED CARD OF 'witanlaw05.CurveSums'. -/
def curveSumsCard : Claim7 := { stood := { row := curveSumsRow, standIns := [], harness := (true, "68e8968b3722d7b2074895315781966719c4b8a7d906a73f62d40c9a3bcd3246"), looks := false }, kinds := [], alts := [], laidByText := true, laidKinds := [.data], laidTests := true, laidLooks := .later }
def CurveSumsCardSaid : Prop := Claim7.holds Tryd.pinned (.plain (OpenSpec.ofChange curveSumsSpec)) curveSumsCard

/-- THE TIED CARD OF 'witanlaw05.CurveGroup'. -/
def curveGroupCard : Claim7 := { stood := { row := curveGroupRow, standIns := [], harness := (true, "68e8968b3722d7b2074895315781966719c4b8a7d906a73f62d40c9a3bcd3246"), looks := false }, kinds := [], alts := [], laidByText := true, laidKinds := [.data], laidTests := true, laidLooks := .later }
def CurveGroupCardSaid : Prop := Claim7.holds Tryd.pinned (.plain (OpenSpec.ofChange curveGroupSpec)) curveGroupCard

/-- THE TIED CARD OF 'witanlaw05.CurveNumbers'. -/
def curveNumbersCard : Claim7 := { stood := { row := curveNumbersRow, standIns := [], harness := (true, "68e8968b3722d7b2074895315781966719c4b8a7d906a73f62d40c9a3bcd3246"), looks := false }, kinds := [], alts := [], laidByText := true, laidKinds := [.data], laidTests := true, laidLooks := .later }
def CurveNumbersCardSaid : Prop := Claim7.holds Tryd.pinned (.plain (OpenSpec.ofChange curveNumbersSpec)) curveNumbersCard

/-- THE TIED CARD OF 'witanlaw05.CurveOrder'. -/
def curveOrderCard : Claim7 := { stood := { row := curveOrderRow, standIns := [], harness := (true, "68e8968b3722d7b2074895315781966719c4b8a7d906a73f62d40c9a3bcd3246"), looks := false }, kinds := [], alts := [], laidByText := true, laidKinds := [.data], laidTests := true, laidLooks := .later }
def CurveOrderCardSaid : Prop := Claim7.holds Tryd.pinned (.plain (OpenSpec.ofChange curveOrderSpec)) curveOrderCard

/-- THE TIED CARD OF 'witanlaw05.CurveNegs'. -/
def curveNegsCard : Claim7 := { stood := { row := curveNegsRow, standIns := [], harness := (true, "68e8968b3722d7b2074895315781966719c4b8a7d906a73f62d40c9a3bcd3246"), looks := false }, kinds := [], alts := [], laidByText := true, laidKinds := [.data], laidTests := true, laidLooks := .later }
def CurveNegsCardSaid : Prop := Claim7.holds Tryd.pinned (.plain (OpenSpec.ofChange curveNegsSpec)) curveNegsCard

/-- THE TIED CARD OF 'witanlaw05.CurveTorsion'. -/
def curveTorsionCard : Claim7 := { stood := { row := curveTorsionRow, standIns := [], harness := (true, "68e8968b3722d7b2074895315781966719c4b8a7d906a73f62d40c9a3bcd3246"), looks := false }, kinds := [], alts := [], laidByText := true, laidKinds := [.data], laidTests := true, laidLooks := .later }
def CurveTorsionCardSaid : Prop := Claim7.holds Tryd.pinned (.plain (OpenSpec.ofChange curveTorsionSpec)) curveTorsionCard

/-- THE SECOND FORM's CARD OF 'witanlaw05.CurveReads'. -/
def curveReadsUptoCard : Claim7 := { stood := { row := curveReadsUptoRow, standIns := [], harness := (true, "68e8968b3722d7b2074895315781966719c4b8a7d906a73f62d40c9a3bcd3246"), looks := false }, kinds := [], alts := [], laidByText := true, laidKinds := [.data], laidTests := true, laidLooks := .later }
def CurveReadsUptoCardSaid : Prop := Claim7.holds Tryd.pinned (.plain (OpenSpec.upto curveReadsSpec)) curveReadsUptoCard

/-- THE SECOND FORM's CARD OF 'witanlaw05.CurveSums'. -/
def curveSumsUptoCard : Claim7 := { stood := { row := curveSumsUptoRow, standIns := [], harness := (true, "68e8968b3722d7b2074895315781966719c4b8a7d906a73f62d40c9a3bcd3246"), looks := false }, kinds := [], alts := [], laidByText := true, laidKinds := [.data], laidTests := true, laidLooks := .later }
def CurveSumsUptoCardSaid : Prop := Claim7.holds Tryd.pinned (.plain (OpenSpec.upto curveSumsSpec)) curveSumsUptoCard

/-- THE SECOND FORM's CARD OF 'witanlaw05.CurveGroup'. -/
def curveGroupUptoCard : Claim7 := { stood := { row := curveGroupUptoRow, standIns := [], harness := (true, "68e8968b3722d7b2074895315781966719c4b8a7d906a73f62d40c9a3bcd3246"), looks := false }, kinds := [], alts := [], laidByText := true, laidKinds := [.data], laidTests := true, laidLooks := .later }
def CurveGroupUptoCardSaid : Prop := Claim7.holds Tryd.pinned (.plain (OpenSpec.upto curveGroupSpec)) curveGroupUptoCard

/-- THE SECOND FORM's CARD OF 'witanlaw05.CurveNumbers'. -/
def curveNumbersUptoCard : Claim7 := { stood := { row := curveNumbersUptoRow, standIns := [], harness := (true, "68e8968b3722d7b2074895315781966719c4b8a7d906a73f62d40c9a3bcd3246"), looks := false }, kinds := [], alts := [], laidByText := true, laidKinds := [.data], laidTests := true, laidLooks := .later }
def CurveNumbersUptoCardSaid : Prop := Claim7.holds Tryd.pinned (.plain (OpenSpec.upto curveNumbersSpec)) curveNumbersUptoCard

/-- THE SECOND FORM's CARD OF 'witanlaw05.CurveOrder'. -/
def curveOrderUptoCard : Claim7 := { stood := { row := curveOrderUptoRow, standIns := [], harness := (true, "68e8968b3722d7b2074895315781966719c4b8a7d906a73f62d40c9a3bcd3246"), looks := false }, kinds := [], alts := [], laidByText := true, laidKinds := [.data], laidTests := true, laidLooks := .later }
def CurveOrderUptoCardSaid : Prop := Claim7.holds Tryd.pinned (.plain (OpenSpec.upto curveOrderSpec)) curveOrderUptoCard

/-- THE SECOND FORM's CARD OF 'witanlaw05.CurveNegs'. -/
def curveNegsUptoCard : Claim7 := { stood := { row := curveNegsUptoRow, standIns := [], harness := (true, "68e8968b3722d7b2074895315781966719c4b8a7d906a73f62d40c9a3bcd3246"), looks := false }, kinds := [], alts := [], laidByText := true, laidKinds := [.data], laidTests := true, laidLooks := .later }
def CurveNegsUptoCardSaid : Prop := Claim7.holds Tryd.pinned (.plain (OpenSpec.upto curveNegsSpec)) curveNegsUptoCard

/-- THE SECOND FORM's CARD OF 'witanlaw05.CurveTorsion'. -/
def curveTorsionUptoCard : Claim7 := { stood := { row := curveTorsionUptoRow, standIns := [], harness := (true, "68e8968b3722d7b2074895315781966719c4b8a7d906a73f62d40c9a3bcd3246"), looks := false }, kinds := [], alts := [], laidByText := true, laidKinds := [.data], laidTests := true, laidLooks := .later }
def CurveTorsionUptoCardSaid : Prop := Claim7.holds Tryd.pinned (.plain (OpenSpec.upto curveTorsionSpec)) curveTorsionUptoCard
end Rows
end Go.Proofs.YtgmiaaapaiccdaaDoor
