/-
  NARROWER THAN 'FOR EVERY INPUT', by the rows' own cells (each row's printed sentence says how): CurveReads: laid · CurveSums: laid · CurveGroup: laid · CurveNumbers: laid · CurveOrder: laid · CurveNegs: laid · CurveTorsion: laid.
  DERIVED. THE GIVEN ROWS OF THIS SEAT. 7 by the template 'for every input the law returns true; each argument reads behind the call as it read before'; 0 by the template 'total and deterministic' (their statements: YtgmiaaapaiccdaaDoorTotals.lean).
  GIVEN WITH THE SEED: the statements are not yours to turn. If you find one false, say at which input.
  Laid BY PROGRAM, IN A SANDBOX (cutbox-rows.mjs): the forced cells as the released guide's own fill.sh prints them over the translation 25fe455b1b392f40… (all of the seat's roots in one cut). By AI agents, Wed Nov 11 2026. No macro, syntax, notation, axiom, sorry.
-/
import Derived.Test.YtgmiaaapaiccdaaDoorChecked
import GoSem.Claim
import GoSem.ClaimJoined
import GoSem.ClaimMapViews
import Derived.JoinedTies
import Derived.KernelRfl
namespace Go.Proofs.YtgmiaaapaiccdaaDoor
/- THE CELL 'sum', in the pinned program and in every row, IS THE sha256 OF THE DUMP (.gsa) THAT YtgmiaaapaiccdaaDoorProg.lean LOADS. Nothing in Lean hashes anything: it is a label: what it is worth is what the hold of that sum in a sandbox is worth. -/
noncomputable def Tryd.pinned : Pinned := { name := "ytgmiaaapaiccdaadoor", sum := "25fe455b1b392f40846eaeb723306e5b170512787b478e6c3f9429dc581018b9", checked := Tryd.checked }
namespace Rows
def none {H : Type} : Left H := { results := [], args := [] }

/- WHAT THE LISTED PACKAGE-LEVEL VARIABLES READ AS WHEN THE CALL BEGINS. Each datum BY PROGRAM (the guide's laid-datum.mjs) off the statement by which the dump's own 'gosem.cut.vars' lays the variable. In a bare row this is a premise. The card (YtgmiaaapaiccdaaDoorCards.lean) ties it to the program's text. -/
def laid_witan_field_twice {H : Type} : DataW H := .agg [.lit (.int .u64 4503599627370458), .lit (.int .u64 4503599627370494), .lit (.int .u64 4503599627370494), .lit (.int .u64 4503599627370494), .lit (.int .u64 4503599627370494)]

/-- 'witanlaw05.CurveReads': WHATEVER THE INPUT: true; the input reads as it did. -/
def curveReadsSpec : ChangeSpec := { name := "curveReads", fn := fun _ => fun
  | [d] => { results := [.lit (.bool true)], args := [d] }
  | _ => none }
def curveReadsRow : OpenClaim := { program := "ytgmiaaapaiccdaadoor", sum := "25fe455b1b392f40846eaeb723306e5b170512787b478e6c3f9429dc581018b9", func := "witan/witanlaw05.CurveReads", spec := "curveReads", inPlace := ["math/bits.Add64"], named := ["witan/field.twice"], apart := false, laid := [("witan/field.twice", laid_witan_field_twice)] }
def CurveReadsSaid : Prop := curveReadsRow.holds Tryd.pinned (OpenSpec.ofChange curveReadsSpec)

/-- ITS FALSE NEIGHBOUR: 'it returns false'. Refute it at one input. -/
def curveReadsWrong : ChangeSpec := { name := "curveReads", fn := fun _ => fun
  | [d] => { results := [.lit (.bool false)], args := [d] }
  | _ => none }
def CurveReadsWrongFalsely : Prop := curveReadsRow.holds Tryd.pinned (OpenSpec.ofChange curveReadsWrong)

/-- 'witanlaw05.CurveSums': WHATEVER THE INPUT: true; the input reads as it did. -/
def curveSumsSpec : ChangeSpec := { name := "curveSums", fn := fun _ => fun
  | [d1, d2, d3] => { results := [.lit (.bool true)], args := [d1, d2, d3] }
  | _ => none }
def curveSumsRow : OpenClaim := { program := "ytgmiaaapaiccdaadoor", sum := "25fe455b1b392f40846eaeb723306e5b170512787b478e6c3f9429dc581018b9", func := "witan/witanlaw05.CurveSums", spec := "curveSums", inPlace := ["math/bits.Add64"], named := ["witan/field.twice"], apart := false, laid := [("witan/field.twice", laid_witan_field_twice)] }
def CurveSumsSaid : Prop := curveSumsRow.holds Tryd.pinned (OpenSpec.ofChange curveSumsSpec)

/-- ITS FALSE NEIGHBOUR: 'it returns false'. Refute it at one input. -/
def curveSumsWrong : ChangeSpec := { name := "curveSums", fn := fun _ => fun
  | [d1, d2, d3] => { results := [.lit (.bool false)], args := [d1, d2, d3] }
  | _ => none }
def CurveSumsWrongFalsely : Prop := curveSumsRow.holds Tryd.pinned (OpenSpec.ofChange curveSumsWrong)

/-- 'witanlaw05.CurveGroup': WHATEVER THE INPUT: true; the input reads as it did. -/
def curveGroupSpec : ChangeSpec := { name := "curveGroup", fn := fun _ => fun
  | [d1, d2, d3] => { results := [.lit (.bool true)], args := [d1, d2, d3] }
  | _ => none }
def curveGroupRow : OpenClaim := { program := "ytgmiaaapaiccdaadoor", sum := "25fe455b1b392f40846eaeb723306e5b170512787b478e6c3f9429dc581018b9", func := "witan/witanlaw05.CurveGroup", spec := "curveGroup", inPlace := ["math/bits.Add64"], named := ["witan/field.twice"], apart := false, laid := [("witan/field.twice", laid_witan_field_twice)] }
def CurveGroupSaid : Prop := curveGroupRow.holds Tryd.pinned (OpenSpec.ofChange curveGroupSpec)

/-- ITS FALSE NEIGHBOUR: 'it returns false'. Refute it at one input. -/
def curveGroupWrong : ChangeSpec := { name := "curveGroup", fn := fun _ => fun
  | [d1, d2, d3] => { results := [.lit (.bool false)], args := [d1, d2, d3] }
  | _ => none }
def CurveGroupWrongFalsely : Prop := curveGroupRow.holds Tryd.pinned (OpenSpec.ofChange curveGroupWrong)

/-- 'witanlaw05.CurveNumbers': WHATEVER THE INPUT: true; the input reads as it did. -/
def curveNumbersSpec : ChangeSpec := { name := "curveNumbers", fn := fun _ => fun
  | [d1, d2] => { results := [.lit (.bool true)], args := [d1, d2] }
  | _ => none }
def curveNumbersRow : OpenClaim := { program := "ytgmiaaapaiccdaadoor", sum := "25fe455b1b392f40846eaeb723306e5b170512787b478e6c3f9429dc581018b9", func := "witan/witanlaw05.CurveNumbers", spec := "curveNumbers", inPlace := ["math/bits.Add64", "math/bits.Sub64"], named := ["witan/field.twice"], apart := false, laid := [("witan/field.twice", laid_witan_field_twice)] }
def CurveNumbersSaid : Prop := curveNumbersRow.holds Tryd.pinned (OpenSpec.ofChange curveNumbersSpec)

/-- ITS FALSE NEIGHBOUR: 'it returns false'. Refute it at one input. -/
def curveNumbersWrong : ChangeSpec := { name := "curveNumbers", fn := fun _ => fun
  | [d1, d2] => { results := [.lit (.bool false)], args := [d1, d2] }
  | _ => none }
def CurveNumbersWrongFalsely : Prop := curveNumbersRow.holds Tryd.pinned (OpenSpec.ofChange curveNumbersWrong)

/-- 'witanlaw05.CurveOrder': WHATEVER THE INPUT: true; the input reads as it did. -/
def curveOrderSpec : ChangeSpec := { name := "curveOrder", fn := fun _ => fun
  | [d] => { results := [.lit (.bool true)], args := [d] }
  | _ => none }
def curveOrderRow : OpenClaim := { program := "ytgmiaaapaiccdaadoor", sum := "25fe455b1b392f40846eaeb723306e5b170512787b478e6c3f9429dc581018b9", func := "witan/witanlaw05.CurveOrder", spec := "curveOrder", inPlace := ["math/bits.Add64"], named := ["witan/field.twice"], apart := false, laid := [("witan/field.twice", laid_witan_field_twice)] }
def CurveOrderSaid : Prop := curveOrderRow.holds Tryd.pinned (OpenSpec.ofChange curveOrderSpec)

/-- ITS FALSE NEIGHBOUR: 'it returns false'. Refute it at one input. -/
def curveOrderWrong : ChangeSpec := { name := "curveOrder", fn := fun _ => fun
  | [d] => { results := [.lit (.bool false)], args := [d] }
  | _ => none }
def CurveOrderWrongFalsely : Prop := curveOrderRow.holds Tryd.pinned (OpenSpec.ofChange curveOrderWrong)

/-- 'witanlaw05.CurveNegs': WHATEVER THE INPUT: true; the input reads as it did. -/
def curveNegsSpec : ChangeSpec := { name := "curveNegs", fn := fun _ => fun
  | [d1, d2] => { results := [.lit (.bool true)], args := [d1, d2] }
  | _ => none }
def curveNegsRow : OpenClaim := { program := "ytgmiaaapaiccdaadoor", sum := "25fe455b1b392f40846eaeb723306e5b170512787b478e6c3f9429dc581018b9", func := "witan/witanlaw05.CurveNegs", spec := "curveNegs", inPlace := ["math/bits.Add64"], named := ["witan/field.twice"], apart := false, laid := [("witan/field.twice", laid_witan_field_twice)] }
def CurveNegsSaid : Prop := curveNegsRow.holds Tryd.pinned (OpenSpec.ofChange curveNegsSpec)

/-- ITS FALSE NEIGHBOUR: 'it returns false'. Refute it at one input. -/
def curveNegsWrong : ChangeSpec := { name := "curveNegs", fn := fun _ => fun
  | [d1, d2] => { results := [.lit (.bool false)], args := [d1, d2] }
  | _ => none }
def CurveNegsWrongFalsely : Prop := curveNegsRow.holds Tryd.pinned (OpenSpec.ofChange curveNegsWrong)

/-- 'witanlaw05.CurveTorsion': WHATEVER THE INPUT: true; the input reads as it did. -/
def curveTorsionSpec : ChangeSpec := { name := "curveTorsion", fn := fun _ => fun
  | [d1, d2] => { results := [.lit (.bool true)], args := [d1, d2] }
  | _ => none }
def curveTorsionRow : OpenClaim := { program := "ytgmiaaapaiccdaadoor", sum := "25fe455b1b392f40846eaeb723306e5b170512787b478e6c3f9429dc581018b9", func := "witan/witanlaw05.CurveTorsion", spec := "curveTorsion", inPlace := ["math/bits.Add64"], named := ["witan/field.twice"], apart := false, laid := [("witan/field.twice", laid_witan_field_twice)] }
def CurveTorsionSaid : Prop := curveTorsionRow.holds Tryd.pinned (OpenSpec.ofChange curveTorsionSpec)

/-- ITS FALSE NEIGHBOUR: 'it returns false'. Refute it at one input. -/
def curveTorsionWrong : ChangeSpec := { name := "curveTorsion", fn := fun _ => fun
  | [d1, d2] => { results := [.lit (.bool false)], args := [d1, d2] }
  | _ => none }
def CurveTorsionWrongFalsely : Prop := curveTorsionRow.holds Tryd.pinned (OpenSpec.ofChange curveTorsionWrong)

/- THE SECOND FORM. 'bulk': how many values and letters a reading holds, each counted each time it is reached (what is shared counts as often as it is met; a slice's spare places count too). A statement '..UptoSaid' is the law's where the arguments, and the package variables that the reading takes, are together of bulk at most 1048576: NARROWER than '..Said'. Prove '..Said' where nothing that the law and all that it calls make is longer than what came in: it says more and counts as full. Else prove '..UptoSaid'. A law counts once. -/
mutual
def uptoBulk {H : Type} : DataW H → Nat
  | .lit (.string bytes) => bytes.length + 1
  | .lit _ => 1
  | .nil => 1
  | .ptr d => uptoBulk d + 1
  | .slice elems spare => uptoBulkAll elems + uptoBulkAll spare + 1
  | .agg parts => uptoBulkAll parts + 1
  | .iface _ d => uptoBulk d + 1
  | .map entries => uptoBulkEntries entries + 1
  | .held _ => 1
def uptoBulkAll {H : Type} : List (DataW H) → Nat
  | [] => 0
  | d :: r => uptoBulk d + uptoBulkAll r
def uptoBulkEntries {H : Type} : List (Lit × DataW H) → Nat
  | [] => 0
  | x :: r => uptoBulkEntry x + uptoBulkEntries r
def uptoBulkEntry {H : Type} : Lit × DataW H → Nat
  | (.string bytes, d) => bytes.length + uptoBulk d + 1
  | (_, d) => uptoBulk d + 1
 end
def uptoSmall : (H : Type) → List (DataW H) → Bool := fun _ ds => decide (uptoBulkAll ds ≤ 1048576)
def OpenSpec.upto (s : _root_.Go.ChangeSpec) : _root_.Go.OpenSpec := { _root_.Go.OpenSpec.ofChange s with cond := some uptoSmall }

/-- 'witanlaw05.CurveReads', WHERE WHAT IT READS IS OF BULK AT MOST 1048576: true; the input reads as it did. -/
def curveReadsUptoRow : OpenClaim := { program := "ytgmiaaapaiccdaadoor", sum := "25fe455b1b392f40846eaeb723306e5b170512787b478e6c3f9429dc581018b9", func := "witan/witanlaw05.CurveReads", spec := "curveReads", inPlace := ["math/bits.Add64"], named := ["witan/field.twice"], apart := false, laid := [("witan/field.twice", laid_witan_field_twice)], narrowed := true }
def CurveReadsUptoSaid : Prop := curveReadsUptoRow.holds Tryd.pinned (OpenSpec.upto curveReadsSpec)

/-- 'witanlaw05.CurveSums', WHERE WHAT IT READS IS OF BULK AT MOST 1048576: true; the input reads as it did. -/
def curveSumsUptoRow : OpenClaim := { program := "ytgmiaaapaiccdaadoor", sum := "25fe455b1b392f40846eaeb723306e5b170512787b478e6c3f9429dc581018b9", func := "witan/witanlaw05.CurveSums", spec := "curveSums", inPlace := ["math/bits.Add64"], named := ["witan/field.twice"], apart := false, laid := [("witan/field.twice", laid_witan_field_twice)], narrowed := true }
def CurveSumsUptoSaid : Prop := curveSumsUptoRow.holds Tryd.pinned (OpenSpec.upto curveSumsSpec)

/-- 'witanlaw05.CurveGroup', WHERE WHAT IT READS IS OF BULK AT MOST 1048576: true; the input reads as it did. -/
def curveGroupUptoRow : OpenClaim := { program := "ytgmiaaapaiccdaadoor", sum := "25fe455b1b392f40846eaeb723306e5b170512787b478e6c3f9429dc581018b9", func := "witan/witanlaw05.CurveGroup", spec := "curveGroup", inPlace := ["math/bits.Add64"], named := ["witan/field.twice"], apart := false, laid := [("witan/field.twice", laid_witan_field_twice)], narrowed := true }
def CurveGroupUptoSaid : Prop := curveGroupUptoRow.holds Tryd.pinned (OpenSpec.upto curveGroupSpec)

/-- 'witanlaw05.CurveNumbers', WHERE WHAT IT READS IS OF BULK AT MOST 1048576: true; the input reads as it did. -/
def curveNumbersUptoRow : OpenClaim := { program := "ytgmiaaapaiccdaadoor", sum := "25fe455b1b392f40846eaeb723306e5b170512787b478e6c3f9429dc581018b9", func := "witan/witanlaw05.CurveNumbers", spec := "curveNumbers", inPlace := ["math/bits.Add64", "math/bits.Sub64"], named := ["witan/field.twice"], apart := false, laid := [("witan/field.twice", laid_witan_field_twice)], narrowed := true }
def CurveNumbersUptoSaid : Prop := curveNumbersUptoRow.holds Tryd.pinned (OpenSpec.upto curveNumbersSpec)

/-- 'witanlaw05.CurveOrder', WHERE WHAT IT READS IS OF BULK AT MOST 1048576: true; the input reads as it did. -/
def curveOrderUptoRow : OpenClaim := { program := "ytgmiaaapaiccdaadoor", sum := "25fe455b1b392f40846eaeb723306e5b170512787b478e6c3f9429dc581018b9", func := "witan/witanlaw05.CurveOrder", spec := "curveOrder", inPlace := ["math/bits.Add64"], named := ["witan/field.twice"], apart := false, laid := [("witan/field.twice", laid_witan_field_twice)], narrowed := true }
def CurveOrderUptoSaid : Prop := curveOrderUptoRow.holds Tryd.pinned (OpenSpec.upto curveOrderSpec)

/-- 'witanlaw05.CurveNegs', WHERE WHAT IT READS IS OF BULK AT MOST 1048576: true; the input reads as it did. -/
def curveNegsUptoRow : OpenClaim := { program := "ytgmiaaapaiccdaadoor", sum := "25fe455b1b392f40846eaeb723306e5b170512787b478e6c3f9429dc581018b9", func := "witan/witanlaw05.CurveNegs", spec := "curveNegs", inPlace := ["math/bits.Add64"], named := ["witan/field.twice"], apart := false, laid := [("witan/field.twice", laid_witan_field_twice)], narrowed := true }
def CurveNegsUptoSaid : Prop := curveNegsUptoRow.holds Tryd.pinned (OpenSpec.upto curveNegsSpec)

/-- 'witanlaw05.CurveTorsion', WHERE WHAT IT READS IS OF BULK AT MOST 1048576: true; the input reads as it did. -/
def curveTorsionUptoRow : OpenClaim := { program := "ytgmiaaapaiccdaadoor", sum := "25fe455b1b392f40846eaeb723306e5b170512787b478e6c3f9429dc581018b9", func := "witan/witanlaw05.CurveTorsion", spec := "curveTorsion", inPlace := ["math/bits.Add64"], named := ["witan/field.twice"], apart := false, laid := [("witan/field.twice", laid_witan_field_twice)], narrowed := true }
def CurveTorsionUptoSaid : Prop := curveTorsionUptoRow.holds Tryd.pinned (OpenSpec.upto curveTorsionSpec)

end Rows
end Go.Proofs.YtgmiaaapaiccdaaDoor
