/-
  ARRAYS OF BYTES: '==' of an array with itself; a list padded to an array's length.
-/
import Derived.Test.YtipakpcdaaoboaaFirst
namespace Go.Proofs.Ytipakpcdaaoboaa
open Go.RowKit

theorem part_at (w : World) (l : List UInt8) (i : Nat) (hi : i < l.length) : (part 5 (By l).toArray (i * 1)).run Try.prog w = .ok (.int .u8 (l[i].toNat : Int)) w := by
  have hagg : (isAgg 5).run Try.prog w = .ok false w := by
    unfold isAgg
    rw [Sem.run_bind, run_underlying Try.underlying5 w]
    rfl
  have hc : (By l)[i]? = some (.int .u8 (l[i].toNat : Int)) := by simp [By, List.getElem?_eq_getElem hi]
  unfold part
  simp [Sem.run_bind, hagg, hc, Sem.run_pure]

theorem equalIn_bytes (d n t : Nat) (l : List UInt8) (ht : Try.prog.underlying t = some (.array n 5)) (hl : l.length = n) (w : World) :
    (Op.equalIn (d + 2) t (.agg (By l).toArray) (.agg (By l).toArray)).run Try.prog w = .ok true w := by
  obtain ⟨i0, hi0, hz0, hz1, hz2⟩ := info_parts info5
  have hI : ∀ (I : List Nat), (∀ i ∈ I, i < n) → (forIn I ((none : Option Bool), ()) fun i _ => do
      let a ← part 5 (By l).toArray (i * 1)
      let b ← part 5 (By l).toArray (i * 1)
      let r ← Op.equalIn (d + 1) 5 a b
      if (!r) = true then pure (ForInStep.done (some false, ())) else pure (ForInStep.yield (none, ()))).run Try.prog w = .ok (none, ()) w := by
    intro I
    induction I with
    | nil => intro _; simp [Sem.run_pure]
    | cons i I ih =>
      intro h
      have hi : i < l.length := by have := h i (by simp); omega
      have hp := part_at w l i hi
      have he : (Op.equalIn (d + 1) 5 (.int .u8 (l[i].toNat : Int)) (.int .u8 (l[i].toNat : Int))).run Try.prog w = .ok true w := by
        simp [Op.equalIn, run_underlying Try.underlying5]
      simp only [List.forIn_cons, Sem.run_bind, hp, Result.andThen_ok, he, Bool.not_true, Bool.false_eq_true, if_false, Sem.run_pure]
      exact ih (fun j hj => h j (by simp [hj]))
  rw [Op.equalIn]
  simp only [Sem.run_bind, run_underlying ht, Result.andThen_ok, sizeOf, typeInfo, run_program, hi0, hz1, Sem.run_pure, Std.Legacy.Range.forIn_eq_forIn_range']
  rw [hI _ (fun i hi => by
    have := List.mem_range'_1.1 hi
    simp [Std.Legacy.Range.size] at this
    omega)]
  rfl

theorem eql_bytes (n t : Nat) (l : List UInt8) (ht : Try.prog.underlying t = some (.array n 5)) (hl : l.length = n) (w : World) :
    (binOp .eql t (.agg (By l).toArray) (.agg (By l).toArray)).run Try.prog w = .ok (.bool true) w := by
  simp only [binOp]
  have h := equalIn_bytes 9998 n t l ht hl w
  simp [Op.equal, Op.maxDepth, h]

/-- n bytes: those of l, noughts behind. -/
def pad (n : Nat) (l : List UInt8) : List UInt8 := l ++ List.replicate (n - l.length) 0
theorem pad_len (n : Nat) (l : List UInt8) (h : l.length ≤ n) : (pad n l).length = n := by
  simp [pad]
  omega

end Go.Proofs.Ytipakpcdaaoboaa
