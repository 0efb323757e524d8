/-
  ITEMS IN MEMORY.
-/
import Derived.Test.YtipakpcdaaoboaaMem
namespace Go.Proofs.Ytipakpcdaaoboaa
open Go.RowKit

/-- An item: its kind, its number, its bytes. -/
abbrev It := Int × Nat × List UInt8

/-- The items lie at A. -/
def Items (w : World) (hi : Nat) (A : Option Addr) (L : List It) : Prop :=
  0 < L.length → ∃ ad, A = some ad ∧ ad.block < hi ∧ ∀ (i : Nat) (x : It), L[i]? = some x → ∃ X c, w.cell? (ad.add (i * 3)) = some (.int .i64 x.1) ∧ w.cell? (ad.add (i * 3 + 1)) = some (.int .u64 (x.2.1 : Int)) ∧
    w.cell? (ad.add (i * 3 + 2)) = some (.slice X x.2.2.length c) ∧ SL w 0 hi X x.2.2 c ∧ x.2.1 < 18446744073709551616 ∧ x.2.2.length ≤ 1048576

end Go.Proofs.Ytipakpcdaaoboaa
