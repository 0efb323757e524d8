/-
  DERIVED. GIVEN WITH THE SEED: THE CARDS: each row of YtoecohpcnojokaaDoorRows.lean that lists a variable, with what it lists TIED to the program's text (the seventh form; the later family's looks); each row that meets fmt, with fmt's text TOLD by the authors' own Lean function (tested against real Go, not proved from fmt's source: count such statements apart). THE CARD IS WHAT COUNTS. Prove the row's statement (the work); the ties are given (YtoecohpcnojokaaDoorTie.lean); close each card by the builder's one call (the guide's Derived/Test/ToyasCard.lean, 'card_holds'). Laid BY PROGRAM, IN A SANDBOX (cutbox-door.mjs). By AI agents, Wed Nov 11 2026. No macro, syntax, notation, axiom, sorry.
-/
import Derived.Test.YtoecohpcnojokaaDoorRows
import GoSem.ClaimSeven
namespace Go.Proofs.YtoecohpcnojokaaDoor
namespace Rows

/-- THE TIED CARD OF 'witanlaw10.WitnessCuts'. -/
def witnessCutsCard : Claim7 := { stood := { row := witnessCutsRow, standIns := [], harness := (true, "0fe6c7c17493e8364be34acc8d606c9bd8cc36c4fdf66af07f71685d1e03e72b"), looks := true }, kinds := [], alts := [], laidByText := true, laidKinds := [.data, .data], laidTests := true, laidLooks := .later }
def WitnessCutsCardSaid : Prop := Claim7.holds Tryd.pinned (.plain (OpenSpec.ofChange witnessCutsSpec)) witnessCutsCard

/-- THE TIED CARD OF 'witanlaw10.WitnessReads'. -/
def witnessReadsCard : Claim7 := { stood := { row := witnessReadsRow, standIns := [], harness := (true, "0fe6c7c17493e8364be34acc8d606c9bd8cc36c4fdf66af07f71685d1e03e72b"), looks := true }, kinds := [], alts := [], laidByText := true, laidKinds := [.data, .data], laidTests := true, laidLooks := .later }
def WitnessReadsCardSaid : Prop := Claim7.holds Tryd.pinned (.plain (OpenSpec.ofChange witnessReadsSpec)) witnessReadsCard

/-- THE TIED CARD OF 'witanlaw10.WitnessPuts'. -/
def witnessPutsCard : Claim7 := { stood := { row := witnessPutsRow, standIns := [], harness := (true, "0fe6c7c17493e8364be34acc8d606c9bd8cc36c4fdf66af07f71685d1e03e72b"), looks := true }, kinds := [], alts := [], laidByText := true, laidKinds := [.data, .data], laidTests := true, laidLooks := .later }
def WitnessPutsCardSaid : Prop := Claim7.holds Tryd.pinned (.plain (OpenSpec.ofChange witnessPutsSpec)) witnessPutsCard

/-- THE TIED CARD OF 'witanlaw10.WitnessLeaf'. -/
def witnessLeafCard : Claim7 := { stood := { row := witnessLeafRow, standIns := [], harness := (true, "0fe6c7c17493e8364be34acc8d606c9bd8cc36c4fdf66af07f71685d1e03e72b"), looks := true }, kinds := [], alts := [], laidByText := true, laidKinds := [.data, .data], laidTests := true, laidLooks := .later }
def WitnessLeafCardSaid : Prop := Claim7.holds Tryd.pinned (.plain (OpenSpec.ofChange witnessLeafSpec)) witnessLeafCard

/-- THE TIED CARD OF 'witanlaw10.WitnessEmpty'. -/
def witnessEmptyCard : Claim7 := { stood := { row := witnessEmptyRow, standIns := [], harness := (true, "0fe6c7c17493e8364be34acc8d606c9bd8cc36c4fdf66af07f71685d1e03e72b"), looks := true }, kinds := [], alts := [], laidByText := true, laidKinds := [.data, .data], laidTests := true, laidLooks := .later }
def WitnessEmptyCardSaid : Prop := Claim7.holds Tryd.pinned (.plain (OpenSpec.ofChange witnessEmptySpec)) witnessEmptyCard

/-- THE SECOND FORM's CARD OF 'witanlaw10.WitnessCuts'. -/
def witnessCutsUptoCard : Claim7 := { stood := { row := witnessCutsUptoRow, standIns := [], harness := (true, "0fe6c7c17493e8364be34acc8d606c9bd8cc36c4fdf66af07f71685d1e03e72b"), looks := true }, kinds := [], alts := [], laidByText := true, laidKinds := [.data, .data], laidTests := true, laidLooks := .later }
def WitnessCutsUptoCardSaid : Prop := Claim7.holds Tryd.pinned (.plain (OpenSpec.upto witnessCutsSpec)) witnessCutsUptoCard

/-- THE SECOND FORM's CARD OF 'witanlaw10.WitnessReads'. -/
def witnessReadsUptoCard : Claim7 := { stood := { row := witnessReadsUptoRow, standIns := [], harness := (true, "0fe6c7c17493e8364be34acc8d606c9bd8cc36c4fdf66af07f71685d1e03e72b"), looks := true }, kinds := [], alts := [], laidByText := true, laidKinds := [.data, .data], laidTests := true, laidLooks := .later }
def WitnessReadsUptoCardSaid : Prop := Claim7.holds Tryd.pinned (.plain (OpenSpec.upto witnessReadsSpec)) witnessReadsUptoCard

/-- THE SECOND FORM's CARD OF 'witanlaw10.WitnessPuts'. -/
def witnessPutsUptoCard : Claim7 := { stood := { row := witnessPutsUptoRow, standIns := [], harness := (true, "0fe6c7c17493e8364be34acc8d606c9bd8cc36c4fdf66af07f71685d1e03e72b"), looks := true }, kinds := [], alts := [], laidByText := true, laidKinds := [.data, .data], laidTests := true, laidLooks := .later }
def WitnessPutsUptoCardSaid : Prop := Claim7.holds Tryd.pinned (.plain (OpenSpec.upto witnessPutsSpec)) witnessPutsUptoCard

/-- THE SECOND FORM's CARD OF 'witanlaw10.WitnessLeaf'. -/
def witnessLeafUptoCard : Claim7 := { stood := { row := witnessLeafUptoRow, standIns := [], harness := (true, "0fe6c7c17493e8364be34acc8d606c9bd8cc36c4fdf66af07f71685d1e03e72b"), looks := true }, kinds := [], alts := [], laidByText := true, laidKinds := [.data, .data], laidTests := true, laidLooks := .later }
def WitnessLeafUptoCardSaid : Prop := Claim7.holds Tryd.pinned (.plain (OpenSpec.upto witnessLeafSpec)) witnessLeafUptoCard

/-- THE SECOND FORM's CARD OF 'witanlaw10.WitnessEmpty'. -/
def witnessEmptyUptoCard : Claim7 := { stood := { row := witnessEmptyUptoRow, standIns := [], harness := (true, "0fe6c7c17493e8364be34acc8d606c9bd8cc36c4fdf66af07f71685d1e03e72b"), looks := true }, kinds := [], alts := [], laidByText := true, laidKinds := [.data, .data], laidTests := true, laidLooks := .later }
def WitnessEmptyUptoCardSaid : Prop := Claim7.holds Tryd.pinned (.plain (OpenSpec.upto witnessEmptySpec)) witnessEmptyUptoCard
end Rows
end Go.Proofs.YtoecohpcnojokaaDoor
