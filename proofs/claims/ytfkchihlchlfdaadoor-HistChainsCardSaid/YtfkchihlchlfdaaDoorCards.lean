/-
  DERIVED. GIVEN WITH THE SEED: THE CARDS: each row of YtfkchihlchlfdaaDoorRows.lean that lists a variable, with what it lists TIED to the program's text (the seventh form; the later family's looks); each row that meets fmt, with fmt's text TOLD by the authors' own Lean function (tested against real Go, not proved from fmt's source: count such statements apart). THE CARD IS WHAT COUNTS. Prove the row's statement (the work); the ties are given (YtfkchihlchlfdaaDoorTie.lean); close each card by the builder's one call (the guide's Derived/Test/ToyasCard.lean, 'card_holds'). Laid BY PROGRAM, IN A SANDBOX (cutbox-door.mjs). By AI agents, Wed Nov 11 2026. No macro, syntax, notation, axiom, sorry.
-/
import Derived.Test.YtfkchihlchlfdaaDoorRows
import GoSem.ClaimSeven
namespace Go.Proofs.YtfkchihlchlfdaaDoor
namespace Rows

/-- THE TIED CARD OF 'witanlaw11.HistNext'. -/
def histNextCard : Claim7 := { stood := { row := histNextRow, standIns := [], harness := (true, "636c601810cd2f8105580418df3a419a6d6266b34af4012d0bd8ed99fdce0b27"), looks := false }, kinds := [], alts := [], laidByText := true, laidKinds := [.data, .data, .data], laidTests := true, laidLooks := .later }
def HistNextCardSaid : Prop := Claim7.holds Tryd.pinned (.plain (OpenSpec.ofChange histNextSpec)) histNextCard

/-- THE TIED CARD OF 'witanlaw11.HistChains'. -/
def histChainsCard : Claim7 := { stood := { row := histChainsRow, standIns := [], harness := (true, "636c601810cd2f8105580418df3a419a6d6266b34af4012d0bd8ed99fdce0b27"), looks := false }, kinds := [], alts := [], laidByText := true, laidKinds := [.data, .data, .data], laidTests := true, laidLooks := .later }
def HistChainsCardSaid : Prop := Claim7.holds Tryd.pinned (.plain (OpenSpec.ofChange histChainsSpec)) histChainsCard

/-- THE SECOND FORM's CARD OF 'witanlaw11.HistNext'. -/
def histNextUptoCard : Claim7 := { stood := { row := histNextUptoRow, standIns := [], harness := (true, "636c601810cd2f8105580418df3a419a6d6266b34af4012d0bd8ed99fdce0b27"), looks := false }, kinds := [], alts := [], laidByText := true, laidKinds := [.data, .data, .data], laidTests := true, laidLooks := .later }
def HistNextUptoCardSaid : Prop := Claim7.holds Tryd.pinned (.plain (OpenSpec.upto histNextSpec)) histNextUptoCard

/-- THE SECOND FORM's CARD OF 'witanlaw11.HistChains'. -/
def histChainsUptoCard : Claim7 := { stood := { row := histChainsUptoRow, standIns := [], harness := (true, "636c601810cd2f8105580418df3a419a6d6266b34af4012d0bd8ed99fdce0b27"), looks := false }, kinds := [], alts := [], laidByText := true, laidKinds := [.data, .data, .data], laidTests := true, laidLooks := .later }
def HistChainsUptoCardSaid : Prop := Claim7.holds Tryd.pinned (.plain (OpenSpec.upto histChainsSpec)) histChainsUptoCard
end Rows
end Go.Proofs.YtfkchihlchlfdaaDoor
