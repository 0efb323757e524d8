/-
  NARROWER THAN 'FOR EVERY INPUT', by the rows' own cells (each row's printed sentence says how): FieldOps: laid · FieldNews: laid · FieldInv: laid · FieldLaws: laid · FieldRows: laid · FieldRoots: laid · FieldPowers: laid · FieldSmall: laid.
  DERIVED. THE GIVEN ROWS OF THIS SEAT. 8 by the template 'for every input the law returns true; each argument reads behind the call as it read before'; 0 by the template 'total and deterministic' (their statements: YtchhkejgdcmicaaDoorTotals.lean).
  GIVEN WITH THE SEED: the statements are not yours to turn. If you find one false, say at which input.
  Laid BY PROGRAM, IN A SANDBOX (cutbox-rows.mjs): the forced cells as the released guide's own fill.sh prints them over the translation 6d83db6f57e1a6e0… (all of the seat's roots in one cut). By AI agents, Wed Nov 11 2026. No macro, syntax, notation, axiom, sorry.
-/
import Derived.Test.YtchhkejgdcmicaaDoorChecked
import GoSem.Claim
import GoSem.ClaimJoined
import GoSem.ClaimMapViews
import Derived.JoinedTies
import Derived.KernelRfl
namespace Go.Proofs.YtchhkejgdcmicaaDoor
/- THE CELL 'sum', in the pinned program and in every row, IS THE sha256 OF THE DUMP (.gsa) THAT YtchhkejgdcmicaaDoorProg.lean LOADS. Nothing in Lean hashes anything: it is a label: what it is worth is what the hold of that sum in a sandbox is worth. -/
noncomputable def Tryd.pinned : Pinned := { name := "ytchhkejgdcmicaadoor", sum := "6d83db6f57e1a6e022355afcc1ad29f580ecbaeda574a8e314e27cd37c209fa7", checked := Tryd.checked }
namespace Rows
def none {H : Type} : Left H := { results := [], args := [] }

/- WHAT THE LISTED PACKAGE-LEVEL VARIABLES READ AS WHEN THE CALL BEGINS. Each datum BY PROGRAM (the guide's laid-datum.mjs) off the statement by which the dump's own 'gosem.cut.vars' lays the variable. In a bare row this is a premise. The card (YtchhkejgdcmicaaDoorCards.lean) ties it to the program's text. -/
def laid_witan_field_twice {H : Type} : DataW H := .agg [.lit (.int .u64 4503599627370458), .lit (.int .u64 4503599627370494), .lit (.int .u64 4503599627370494), .lit (.int .u64 4503599627370494), .lit (.int .u64 4503599627370494)]

/-- 'witanlaw03.FieldOps': WHATEVER THE INPUT: true; the input reads as it did. -/
def fieldOpsSpec : ChangeSpec := { name := "fieldOps", fn := fun _ => fun
  | [d1, d2] => { results := [.lit (.bool true)], args := [d1, d2] }
  | _ => none }
def fieldOpsRow : OpenClaim := { program := "ytchhkejgdcmicaadoor", sum := "6d83db6f57e1a6e022355afcc1ad29f580ecbaeda574a8e314e27cd37c209fa7", func := "witan/witanlaw03.FieldOps", spec := "fieldOps", inPlace := ["math/bits.Add64"], named := ["witan/field.twice"], apart := false, laid := [("witan/field.twice", laid_witan_field_twice)] }
def FieldOpsSaid : Prop := fieldOpsRow.holds Tryd.pinned (OpenSpec.ofChange fieldOpsSpec)

/-- ITS FALSE NEIGHBOUR: 'it returns false'. Refute it at one input. -/
def fieldOpsWrong : ChangeSpec := { name := "fieldOps", fn := fun _ => fun
  | [d1, d2] => { results := [.lit (.bool false)], args := [d1, d2] }
  | _ => none }
def FieldOpsWrongFalsely : Prop := fieldOpsRow.holds Tryd.pinned (OpenSpec.ofChange fieldOpsWrong)

/-- 'witanlaw03.FieldNews': WHATEVER THE INPUT: true; the input reads as it did. -/
def fieldNewsSpec : ChangeSpec := { name := "fieldNews", fn := fun _ => fun
  | [d1, d2] => { results := [.lit (.bool true)], args := [d1, d2] }
  | _ => none }
def fieldNewsRow : OpenClaim := { program := "ytchhkejgdcmicaadoor", sum := "6d83db6f57e1a6e022355afcc1ad29f580ecbaeda574a8e314e27cd37c209fa7", func := "witan/witanlaw03.FieldNews", spec := "fieldNews", inPlace := ["math/bits.Add64"], named := ["witan/field.twice"], apart := false, laid := [("witan/field.twice", laid_witan_field_twice)] }
def FieldNewsSaid : Prop := fieldNewsRow.holds Tryd.pinned (OpenSpec.ofChange fieldNewsSpec)

/-- ITS FALSE NEIGHBOUR: 'it returns false'. Refute it at one input. -/
def fieldNewsWrong : ChangeSpec := { name := "fieldNews", fn := fun _ => fun
  | [d1, d2] => { results := [.lit (.bool false)], args := [d1, d2] }
  | _ => none }
def FieldNewsWrongFalsely : Prop := fieldNewsRow.holds Tryd.pinned (OpenSpec.ofChange fieldNewsWrong)

/-- 'witanlaw03.FieldInv': WHATEVER THE INPUT: true; the input reads as it did. -/
def fieldInvSpec : ChangeSpec := { name := "fieldInv", fn := fun _ => fun
  | [d] => { results := [.lit (.bool true)], args := [d] }
  | _ => none }
def fieldInvRow : OpenClaim := { program := "ytchhkejgdcmicaadoor", sum := "6d83db6f57e1a6e022355afcc1ad29f580ecbaeda574a8e314e27cd37c209fa7", func := "witan/witanlaw03.FieldInv", spec := "fieldInv", inPlace := ["math/bits.Add64"], named := ["witan/field.twice"], apart := false, laid := [("witan/field.twice", laid_witan_field_twice)] }
def FieldInvSaid : Prop := fieldInvRow.holds Tryd.pinned (OpenSpec.ofChange fieldInvSpec)

/-- ITS FALSE NEIGHBOUR: 'it returns false'. Refute it at one input. -/
def fieldInvWrong : ChangeSpec := { name := "fieldInv", fn := fun _ => fun
  | [d] => { results := [.lit (.bool false)], args := [d] }
  | _ => none }
def FieldInvWrongFalsely : Prop := fieldInvRow.holds Tryd.pinned (OpenSpec.ofChange fieldInvWrong)

/-- 'witanlaw03.FieldLaws': WHATEVER THE INPUT: true; the input reads as it did. -/
def fieldLawsSpec : ChangeSpec := { name := "fieldLaws", fn := fun _ => fun
  | [d1, d2, d3] => { results := [.lit (.bool true)], args := [d1, d2, d3] }
  | _ => none }
def fieldLawsRow : OpenClaim := { program := "ytchhkejgdcmicaadoor", sum := "6d83db6f57e1a6e022355afcc1ad29f580ecbaeda574a8e314e27cd37c209fa7", func := "witan/witanlaw03.FieldLaws", spec := "fieldLaws", inPlace := ["math/bits.Add64"], named := ["witan/field.twice"], apart := false, laid := [("witan/field.twice", laid_witan_field_twice)] }
def FieldLawsSaid : Prop := fieldLawsRow.holds Tryd.pinned (OpenSpec.ofChange fieldLawsSpec)

/-- ITS FALSE NEIGHBOUR: 'it returns false'. Refute it at one input. -/
def fieldLawsWrong : ChangeSpec := { name := "fieldLaws", fn := fun _ => fun
  | [d1, d2, d3] => { results := [.lit (.bool false)], args := [d1, d2, d3] }
  | _ => none }
def FieldLawsWrongFalsely : Prop := fieldLawsRow.holds Tryd.pinned (OpenSpec.ofChange fieldLawsWrong)

/-- 'witanlaw03.FieldRows': WHATEVER THE INPUT: true; the input reads as it did. -/
def fieldRowsSpec : ChangeSpec := { name := "fieldRows", fn := fun _ => fun
  | [d1, d2, d3] => { results := [.lit (.bool true)], args := [d1, d2, d3] }
  | _ => none }
def fieldRowsRow : OpenClaim := { program := "ytchhkejgdcmicaadoor", sum := "6d83db6f57e1a6e022355afcc1ad29f580ecbaeda574a8e314e27cd37c209fa7", func := "witan/witanlaw03.FieldRows", spec := "fieldRows", inPlace := ["math/bits.Add64"], named := ["witan/field.twice"], apart := false, laid := [("witan/field.twice", laid_witan_field_twice)] }
def FieldRowsSaid : Prop := fieldRowsRow.holds Tryd.pinned (OpenSpec.ofChange fieldRowsSpec)

/-- ITS FALSE NEIGHBOUR: 'it returns false'. Refute it at one input. -/
def fieldRowsWrong : ChangeSpec := { name := "fieldRows", fn := fun _ => fun
  | [d1, d2, d3] => { results := [.lit (.bool false)], args := [d1, d2, d3] }
  | _ => none }
def FieldRowsWrongFalsely : Prop := fieldRowsRow.holds Tryd.pinned (OpenSpec.ofChange fieldRowsWrong)

/-- 'witanlaw03.FieldRoots': WHATEVER THE INPUT: true; the input reads as it did. -/
def fieldRootsSpec : ChangeSpec := { name := "fieldRoots", fn := fun _ => fun
  | [d1, d2] => { results := [.lit (.bool true)], args := [d1, d2] }
  | _ => none }
def fieldRootsRow : OpenClaim := { program := "ytchhkejgdcmicaadoor", sum := "6d83db6f57e1a6e022355afcc1ad29f580ecbaeda574a8e314e27cd37c209fa7", func := "witan/witanlaw03.FieldRoots", spec := "fieldRoots", inPlace := ["math/bits.Add64"], named := ["witan/field.twice"], apart := false, laid := [("witan/field.twice", laid_witan_field_twice)] }
def FieldRootsSaid : Prop := fieldRootsRow.holds Tryd.pinned (OpenSpec.ofChange fieldRootsSpec)

/-- ITS FALSE NEIGHBOUR: 'it returns false'. Refute it at one input. -/
def fieldRootsWrong : ChangeSpec := { name := "fieldRoots", fn := fun _ => fun
  | [d1, d2] => { results := [.lit (.bool false)], args := [d1, d2] }
  | _ => none }
def FieldRootsWrongFalsely : Prop := fieldRootsRow.holds Tryd.pinned (OpenSpec.ofChange fieldRootsWrong)

/-- 'witanlaw03.FieldPowers': WHATEVER THE INPUT: true; the input reads as it did. -/
def fieldPowersSpec : ChangeSpec := { name := "fieldPowers", fn := fun _ => fun
  | [d] => { results := [.lit (.bool true)], args := [d] }
  | _ => none }
def fieldPowersRow : OpenClaim := { program := "ytchhkejgdcmicaadoor", sum := "6d83db6f57e1a6e022355afcc1ad29f580ecbaeda574a8e314e27cd37c209fa7", func := "witan/witanlaw03.FieldPowers", spec := "fieldPowers", inPlace := ["math/bits.Add64"], named := ["witan/field.twice"], apart := false, laid := [("witan/field.twice", laid_witan_field_twice)] }
def FieldPowersSaid : Prop := fieldPowersRow.holds Tryd.pinned (OpenSpec.ofChange fieldPowersSpec)

/-- ITS FALSE NEIGHBOUR: 'it returns false'. Refute it at one input. -/
def fieldPowersWrong : ChangeSpec := { name := "fieldPowers", fn := fun _ => fun
  | [d] => { results := [.lit (.bool false)], args := [d] }
  | _ => none }
def FieldPowersWrongFalsely : Prop := fieldPowersRow.holds Tryd.pinned (OpenSpec.ofChange fieldPowersWrong)

/-- 'witanlaw03.FieldSmall': WHATEVER THE INPUT: true; the input reads as it did. -/
def fieldSmallSpec : ChangeSpec := { name := "fieldSmall", fn := fun _ => fun
  | [d1, d2] => { results := [.lit (.bool true)], args := [d1, d2] }
  | _ => none }
def fieldSmallRow : OpenClaim := { program := "ytchhkejgdcmicaadoor", sum := "6d83db6f57e1a6e022355afcc1ad29f580ecbaeda574a8e314e27cd37c209fa7", func := "witan/witanlaw03.FieldSmall", spec := "fieldSmall", inPlace := ["math/bits.Add64"], named := ["witan/field.twice"], apart := false, laid := [("witan/field.twice", laid_witan_field_twice)] }
def FieldSmallSaid : Prop := fieldSmallRow.holds Tryd.pinned (OpenSpec.ofChange fieldSmallSpec)

/-- ITS FALSE NEIGHBOUR: 'it returns false'. Refute it at one input. -/
def fieldSmallWrong : ChangeSpec := { name := "fieldSmall", fn := fun _ => fun
  | [d1, d2] => { results := [.lit (.bool false)], args := [d1, d2] }
  | _ => none }
def FieldSmallWrongFalsely : Prop := fieldSmallRow.holds Tryd.pinned (OpenSpec.ofChange fieldSmallWrong)

/- THE SECOND FORM. 'bulk': how many values and letters a reading holds, each counted each time it is reached (what is shared counts as often as it is met; a slice's spare places count too). A statement '..UptoSaid' is the law's where the arguments, and the package variables that the reading takes, are together of bulk at most 1048576: NARROWER than '..Said'. Prove '..Said' where nothing that the law and all that it calls make is longer than what came in: it says more and counts as full. Else prove '..UptoSaid'. A law counts once. -/
mutual
def uptoBulk {H : Type} : DataW H → Nat
  | .lit (.string bytes) => bytes.length + 1
  | .lit _ => 1
  | .nil => 1
  | .ptr d => uptoBulk d + 1
  | .slice elems spare => uptoBulkAll elems + uptoBulkAll spare + 1
  | .agg parts => uptoBulkAll parts + 1
  | .iface _ d => uptoBulk d + 1
  | .map entries => uptoBulkEntries entries + 1
  | .held _ => 1
def uptoBulkAll {H : Type} : List (DataW H) → Nat
  | [] => 0
  | d :: r => uptoBulk d + uptoBulkAll r
def uptoBulkEntries {H : Type} : List (Lit × DataW H) → Nat
  | [] => 0
  | x :: r => uptoBulkEntry x + uptoBulkEntries r
def uptoBulkEntry {H : Type} : Lit × DataW H → Nat
  | (.string bytes, d) => bytes.length + uptoBulk d + 1
  | (_, d) => uptoBulk d + 1
 end
def uptoSmall : (H : Type) → List (DataW H) → Bool := fun _ ds => decide (uptoBulkAll ds ≤ 1048576)
def OpenSpec.upto (s : _root_.Go.ChangeSpec) : _root_.Go.OpenSpec := { _root_.Go.OpenSpec.ofChange s with cond := some uptoSmall }

/-- 'witanlaw03.FieldOps', WHERE WHAT IT READS IS OF BULK AT MOST 1048576: true; the input reads as it did. -/
def fieldOpsUptoRow : OpenClaim := { program := "ytchhkejgdcmicaadoor", sum := "6d83db6f57e1a6e022355afcc1ad29f580ecbaeda574a8e314e27cd37c209fa7", func := "witan/witanlaw03.FieldOps", spec := "fieldOps", inPlace := ["math/bits.Add64"], named := ["witan/field.twice"], apart := false, laid := [("witan/field.twice", laid_witan_field_twice)], narrowed := true }
def FieldOpsUptoSaid : Prop := fieldOpsUptoRow.holds Tryd.pinned (OpenSpec.upto fieldOpsSpec)

/-- 'witanlaw03.FieldNews', WHERE WHAT IT READS IS OF BULK AT MOST 1048576: true; the input reads as it did. -/
def fieldNewsUptoRow : OpenClaim := { program := "ytchhkejgdcmicaadoor", sum := "6d83db6f57e1a6e022355afcc1ad29f580ecbaeda574a8e314e27cd37c209fa7", func := "witan/witanlaw03.FieldNews", spec := "fieldNews", inPlace := ["math/bits.Add64"], named := ["witan/field.twice"], apart := false, laid := [("witan/field.twice", laid_witan_field_twice)], narrowed := true }
def FieldNewsUptoSaid : Prop := fieldNewsUptoRow.holds Tryd.pinned (OpenSpec.upto fieldNewsSpec)

/-- 'witanlaw03.FieldInv', WHERE WHAT IT READS IS OF BULK AT MOST 1048576: true; the input reads as it did. -/
def fieldInvUptoRow : OpenClaim := { program := "ytchhkejgdcmicaadoor", sum := "6d83db6f57e1a6e022355afcc1ad29f580ecbaeda574a8e314e27cd37c209fa7", func := "witan/witanlaw03.FieldInv", spec := "fieldInv", inPlace := ["math/bits.Add64"], named := ["witan/field.twice"], apart := false, laid := [("witan/field.twice", laid_witan_field_twice)], narrowed := true }
def FieldInvUptoSaid : Prop := fieldInvUptoRow.holds Tryd.pinned (OpenSpec.upto fieldInvSpec)

/-- 'witanlaw03.FieldLaws', WHERE WHAT IT READS IS OF BULK AT MOST 1048576: true; the input reads as it did. -/
def fieldLawsUptoRow : OpenClaim := { program := "ytchhkejgdcmicaadoor", sum := "6d83db6f57e1a6e022355afcc1ad29f580ecbaeda574a8e314e27cd37c209fa7", func := "witan/witanlaw03.FieldLaws", spec := "fieldLaws", inPlace := ["math/bits.Add64"], named := ["witan/field.twice"], apart := false, laid := [("witan/field.twice", laid_witan_field_twice)], narrowed := true }
def FieldLawsUptoSaid : Prop := fieldLawsUptoRow.holds Tryd.pinned (OpenSpec.upto fieldLawsSpec)

/-- 'witanlaw03.FieldRows', WHERE WHAT IT READS IS OF BULK AT MOST 1048576: true; the input reads as it did. -/
def fieldRowsUptoRow : OpenClaim := { program := "ytchhkejgdcmicaadoor", sum := "6d83db6f57e1a6e022355afcc1ad29f580ecbaeda574a8e314e27cd37c209fa7", func := "witan/witanlaw03.FieldRows", spec := "fieldRows", inPlace := ["math/bits.Add64"], named := ["witan/field.twice"], apart := false, laid := [("witan/field.twice", laid_witan_field_twice)], narrowed := true }
def FieldRowsUptoSaid : Prop := fieldRowsUptoRow.holds Tryd.pinned (OpenSpec.upto fieldRowsSpec)

/-- 'witanlaw03.FieldRoots', WHERE WHAT IT READS IS OF BULK AT MOST 1048576: true; the input reads as it did. -/
def fieldRootsUptoRow : OpenClaim := { program := "ytchhkejgdcmicaadoor", sum := "6d83db6f57e1a6e022355afcc1ad29f580ecbaeda574a8e314e27cd37c209fa7", func := "witan/witanlaw03.FieldRoots", spec := "fieldRoots", inPlace := ["math/bits.Add64"], named := ["witan/field.twice"], apart := false, laid := [("witan/field.twice", laid_witan_field_twice)], narrowed := true }
def FieldRootsUptoSaid : Prop := fieldRootsUptoRow.holds Tryd.pinned (OpenSpec.upto fieldRootsSpec)

/-- 'witanlaw03.FieldPowers', WHERE WHAT IT READS IS OF BULK AT MOST 1048576: true; the input reads as it did. -/
def fieldPowersUptoRow : OpenClaim := { program := "ytchhkejgdcmicaadoor", sum := "6d83db6f57e1a6e022355afcc1ad29f580ecbaeda574a8e314e27cd37c209fa7", func := "witan/witanlaw03.FieldPowers", spec := "fieldPowers", inPlace := ["math/bits.Add64"], named := ["witan/field.twice"], apart := false, laid := [("witan/field.twice", laid_witan_field_twice)], narrowed := true }
def FieldPowersUptoSaid : Prop := fieldPowersUptoRow.holds Tryd.pinned (OpenSpec.upto fieldPowersSpec)

/-- 'witanlaw03.FieldSmall', WHERE WHAT IT READS IS OF BULK AT MOST 1048576: true; the input reads as it did. -/
def fieldSmallUptoRow : OpenClaim := { program := "ytchhkejgdcmicaadoor", sum := "6d83db6f57e1a6e022355afcc1ad29f580ecbaeda574a8e314e27cd37c209fa7", func := "witan/witanlaw03.FieldSmall", spec := "fieldSmall", inPlace := ["math/bits.Add64"], named := ["witan/field.twice"], apart := false, laid := [("witan/field.twice", laid_witan_field_twice)], narrowed := true }
def FieldSmallUptoSaid : Prop := fieldSmallUptoRow.holds Tryd.pinned (OpenSpec.upto fieldSmallSpec)

end Rows
end Go.Proofs.YtchhkejgdcmicaaDoor
