/-
  DERIVED. GIVEN WITH THE SEED: THE CARDS: each row of YtdinohbahfdphaaGreatDoorRows.lean that lists a variable, with what it lists TIED to the program's text (the seventh form; the later family's looks); each row that meets fmt, with fmt's text TOLD by the authors' own Lean function (tested against real Go, not proved from fmt's source: count such statements apart). THE CARD IS WHAT COUNTS. Prove the row's statement (the work); the ties are given (YtdinohbahfdphaaGreatDoorTie.lean); close each card by the builder's one call (the guide's Derived/Test/ToyasCard.lean, 'card_holds'). Laid BY PROGRAM, IN A SANDBOX (cutbox-door.mjs). By AI agents, Wed Nov 11 2026. No macro, syntax, notation, axiom, sorry.
-/
import Derived.Test.YtdinohbahfdphaaGreatDoorRows
import GoSem.ClaimSeven
namespace Go.Proofs.YtdinohbahfdphaaGreatDoor
namespace Rows

/-- THE TIED CARD OF 'witanlaw13.AuditSteps'. -/
def auditStepsCard : Claim7 := { stood := { row := auditStepsRow, standIns := [], harness := (true, "4baf3a9a8e2e2e3097f6122551615c1de319bf7286274823a500f02a2b01ec63"), looks := true }, kinds := [], alts := [], laidByText := true, laidKinds := [.data, .data, .data], laidTests := true, laidLooks := .later }
def AuditStepsCardSaid : Prop := Claim7.holds Tryz.pinned (.plain (OpenSpec.ofChange auditStepsSpec)) auditStepsCard

/-- THE TIED CARD OF 'witanlaw13.AuditChecks'. -/
def auditChecksCard : Claim7 := { stood := { row := auditChecksRow, standIns := [], harness := (true, "4baf3a9a8e2e2e3097f6122551615c1de319bf7286274823a500f02a2b01ec63"), looks := true }, kinds := [], alts := [], laidByText := true, laidKinds := [.data, .data, .data], laidTests := true, laidLooks := .later }
def AuditChecksCardSaid : Prop := Claim7.holds Tryz.pinned (.plain (OpenSpec.ofChange auditChecksSpec)) auditChecksCard

/-- THE TIED CARD OF 'witanlaw13.AuditTells'. -/
def auditTellsCard : Claim7 := { stood := { row := auditTellsRow, standIns := [], harness := (true, "4baf3a9a8e2e2e3097f6122551615c1de319bf7286274823a500f02a2b01ec63"), looks := true }, kinds := [], alts := [], laidByText := true, laidKinds := [.data, .data, .data], laidTests := true, laidLooks := .later }
def AuditTellsCardSaid : Prop := Claim7.holds Tryz.pinned (.plain (OpenSpec.ofChange auditTellsSpec)) auditTellsCard

/-- THE TIED CARD OF 'witanlaw13.AuditBatch'. -/
def auditBatchCard : Claim7 := { stood := { row := auditBatchRow, standIns := [], harness := (true, "4baf3a9a8e2e2e3097f6122551615c1de319bf7286274823a500f02a2b01ec63"), looks := true }, kinds := [], alts := [], laidByText := true, laidKinds := [.data, .data, .data], laidTests := true, laidLooks := .later }
def AuditBatchCardSaid : Prop := Claim7.holds Tryz.pinned (.plain (OpenSpec.ofChange auditBatchSpec)) auditBatchCard

/-- THE SECOND FORM's CARD OF 'witanlaw13.AuditSteps'. -/
def auditStepsUptoCard : Claim7 := { stood := { row := auditStepsUptoRow, standIns := [], harness := (true, "4baf3a9a8e2e2e3097f6122551615c1de319bf7286274823a500f02a2b01ec63"), looks := true }, kinds := [], alts := [], laidByText := true, laidKinds := [.data, .data, .data], laidTests := true, laidLooks := .later }
def AuditStepsUptoCardSaid : Prop := Claim7.holds Tryz.pinned (.plain (OpenSpec.upto auditStepsSpec)) auditStepsUptoCard

/-- THE SECOND FORM's CARD OF 'witanlaw13.AuditChecks'. -/
def auditChecksUptoCard : Claim7 := { stood := { row := auditChecksUptoRow, standIns := [], harness := (true, "4baf3a9a8e2e2e3097f6122551615c1de319bf7286274823a500f02a2b01ec63"), looks := true }, kinds := [], alts := [], laidByText := true, laidKinds := [.data, .data, .data], laidTests := true, laidLooks := .later }
def AuditChecksUptoCardSaid : Prop := Claim7.holds Tryz.pinned (.plain (OpenSpec.upto auditChecksSpec)) auditChecksUptoCard

/-- THE SECOND FORM's CARD OF 'witanlaw13.AuditTells'. -/
def auditTellsUptoCard : Claim7 := { stood := { row := auditTellsUptoRow, standIns := [], harness := (true, "4baf3a9a8e2e2e3097f6122551615c1de319bf7286274823a500f02a2b01ec63"), looks := true }, kinds := [], alts := [], laidByText := true, laidKinds := [.data, .data, .data], laidTests := true, laidLooks := .later }
def AuditTellsUptoCardSaid : Prop := Claim7.holds Tryz.pinned (.plain (OpenSpec.upto auditTellsSpec)) auditTellsUptoCard

/-- THE SECOND FORM's CARD OF 'witanlaw13.AuditBatch'. -/
def auditBatchUptoCard : Claim7 := { stood := { row := auditBatchUptoRow, standIns := [], harness := (true, "4baf3a9a8e2e2e3097f6122551615c1de319bf7286274823a500f02a2b01ec63"), looks := true }, kinds := [], alts := [], laidByText := true, laidKinds := [.data, .data, .data], laidTests := true, laidLooks := .later }
def AuditBatchUptoCardSaid : Prop := Claim7.holds Tryz.pinned (.plain (OpenSpec.upto auditBatchSpec)) auditBatchUptoCard
end Rows
end Go.Proofs.YtdinohbahfdphaaGreatDoor
