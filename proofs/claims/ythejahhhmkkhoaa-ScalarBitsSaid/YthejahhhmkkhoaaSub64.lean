/-
  WORDS OF 64 BITS: the library's Sub64; calls of the library inside regions.
-/
import Derived.Test.YthejahhhmkkhoaaWord
namespace Go.Proofs.Ythejahhhmkkhoaa
open Go.RowKit Go.IntWalk

theorem sub64_run (x y b : Nat) (hb : b ≤ 1) (w : World) : (callFunc 28 #[.int .u64 x, .int .u64 y, .int .u64 b]).run Try.prog w =
    .ok (.value (.tuple #[.int .u64 (((x + 18446744073709551616 - y - b) % 18446744073709551616 : Nat) : Int), .int .u64 ((if x < y + b then 1 else 0 : Nat) : Int)])) w := by
  rw [run_callFunc_extern Try.func28 (by kernel_rfl) (by kernel_rfl) (by kernel_rfl) (e := subEntry) (by kernel_rfl), run_sub x y b hb]
  rfl

section
variable {ops : Array Oper} {C0 : World → Prop} {Q : Act → Prop} {a : Act} {o : Oper} {rest : List Oper}
/-- A call of a function that the model answers itself. -/
theorem b_ext {f : FuncId} {xs : Array Operand} {ats : Array TypeId} {args : Array Value} {v : Value} (hg : Region.wanted o (yielded ops a.tmps) = true)
    (hf : ∀ w, (callFunc f args).run Try.prog w = .ok (.value v) w)
    (ho : o.op = .call { callee := .value (.func f), args := xs, argTypes := ats }) (hx : xs.toList.map a.eval = args.toList) (hk : wpB Try.prog ops C0 Q rest (a.put o.dst v)) : wpB Try.prog ops C0 Q (o :: rest) a :=
  b_val hg (fun w _ => by
    have h := hf w
    have e := map_eval hx
    obtain ⟨dst, op, ty, pos, af, gd⟩ := o
    simp only at ho
    subst ho
    subst e
    go_simp) hk
end
end Go.Proofs.Ythejahhhmkkhoaa
