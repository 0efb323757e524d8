/-
  ARRAYS OF BYTES: '==' of any two of one length.
-/
import Derived.Test.YthejahhhmkkhoaaMem
namespace Go.Proofs.Ythejahhhmkkhoaa
open Go.RowKit

theorem info8 : (Try.prog.info? 5).map (fun i => (i.zero, i.size, i.bytes)) = some (some (.int .u8 0), 1, 1) := by kernel_rfl

theorem part_at (w : World) (l : List UInt8) (i : Nat) (hi : i < l.length) : (part 5 (By l).toArray (i * 1)).run Try.prog w = .ok (.int .u8 (l[i].toNat : Int)) w := by
  have hagg : (isAgg 5).run Try.prog w = .ok false w := by
    unfold isAgg
    rw [Sem.run_bind, run_underlying Try.underlying5 w]
    rfl
  have hc : (By l)[i]? = some (.int .u8 (l[i].toNat : Int)) := by simp [By, List.getElem?_eq_getElem hi]
  unfold part
  simp [Sem.run_bind, hagg, hc, Sem.run_pure]

theorem one_eq (d : Nat) (x y : UInt8) (w : World) : (Op.equalIn (d + 1) 5 (.int .u8 (x.toNat : Int)) (.int .u8 (y.toNat : Int))).run Try.prog w = .ok (decide (x = y)) w := by
  simp [Op.equalIn, run_underlying Try.underlying5]
  by_cases h : x = y
  · simp [h]
  · have h2 : ¬ x.toNat = y.toNat := fun e => h (UInt8.toNat.inj e)
    simp [h]
    intro e
    exact h2 (by omega)

theorem equalIn_bytes (d n t : Nat) (l m : List UInt8) (ht : Try.prog.underlying t = some (.array n 5)) (hl : l.length = n) (hm : m.length = n) (w : World) :
    (Op.equalIn (d + 2) t (.agg (By l).toArray) (.agg (By m).toArray)).run Try.prog w = .ok (decide (l = m)) w := by
  obtain ⟨i0, hi0, hz0, hz1, hz2⟩ := info_parts info8
  have hI : ∀ (I : List Nat), (∀ i ∈ I, i < n) → (forIn I ((none : Option Bool), ()) fun i _ => do
      let a ← part 5 (By l).toArray (i * 1)
      let b ← part 5 (By m).toArray (i * 1)
      let r ← Op.equalIn (d + 1) 5 a b
      if (!r) = true then pure (ForInStep.done (some false, ())) else pure (ForInStep.yield (none, ()))).run Try.prog w = .ok (if ∀ i ∈ I, l[i]! = m[i]! then (none, ()) else (some false, ())) w := by
    intro I
    induction I with
    | nil => intro _; simp [Sem.run_pure]
    | cons i I ih =>
      intro h
      have hi : i < l.length := by have := h i (by simp); omega
      have hj : i < m.length := by have := h i (by simp); omega
      have hp := part_at w l i hi
      have hq := part_at w m i hj
      have he := one_eq d l[i] m[i] w
      have e1 : l[i]! = l[i] := getElem!_pos l i hi
      have e2 : m[i]! = m[i] := getElem!_pos m i hj
      by_cases hx : l[i] = m[i]
      · rw [show decide (l[i] = m[i]) = true by simp [hx]] at he
        simp only [List.forIn_cons, Sem.run_bind, hp, hq, Result.andThen_ok, he, Bool.not_true, Bool.false_eq_true, if_false, Sem.run_pure]
        rw [ih (fun j hj => h j (by simp [hj]))]
        congr 1
        by_cases ha : ∀ i ∈ I, l[i]! = m[i]!
        · have hb : ∀ j ∈ i :: I, l[j]! = m[j]! := by
            intro j hj
            rcases List.mem_cons.mp hj with rfl | hj
            · rw [e1, e2, hx]
            · exact ha j hj
          rw [if_pos ha, if_pos hb]
        · rw [if_neg ha, if_neg (fun hb => ha fun j hj => hb j (List.mem_cons_of_mem _ hj))]
      · rw [show decide (l[i] = m[i]) = false by simp [hx]] at he
        simp only [List.forIn_cons, Sem.run_bind, hp, hq, Result.andThen_ok, he, Bool.not_false, if_true, Sem.run_pure]
        rw [if_neg (fun hb => hx (by have := hb i (List.mem_cons_self ..); rw [e1, e2] at this; exact this))]
  rw [Op.equalIn]
  simp only [Sem.run_bind, run_underlying ht, Result.andThen_ok, sizeOf, typeInfo, run_program, hi0, hz1, Sem.run_pure, Std.Legacy.Range.forIn_eq_forIn_range']
  rw [hI _ (fun i hi => by
    have := List.mem_range'_1.1 hi
    simp [Std.Legacy.Range.size] at this
    omega)]
  by_cases hlm : l = m
  · subst hlm
    simp [Sem.run_pure]
  · have hne : ¬ ∀ i ∈ List.range' 0 n 1, l[i]! = m[i]! := fun ha => hlm (by
      apply List.ext_getElem (by rw [hl, hm])
      intro i h1 h2
      have := ha i (List.mem_range'_1.2 (by omega))
      rwa [getElem!_pos l i h1, getElem!_pos m i h2] at this)
    have hs : Std.Legacy.Range.size [:n] = n := by simp [Std.Legacy.Range.size]
    rw [hs, if_neg hne, show decide (l = m) = false by simp [hlm]]
    rfl

theorem equal32 (l m : List UInt8) (hl : l.length = 32) (hm : m.length = 32) (w : World) : (Op.equalIn 10000 22 (.agg (By l).toArray) (.agg (By m).toArray)).run Try.prog w = .ok (decide (l = m)) w := equalIn_bytes 9998 32 22 l m Try.underlying22 hl hm w

theorem eql_bytes (n t : Nat) (l m : List UInt8) (ht : Try.prog.underlying t = some (.array n 5)) (hl : l.length = n) (hm : m.length = n) (w : World) :
    (binOp .eql t (.agg (By l).toArray) (.agg (By m).toArray)).run Try.prog w = .ok (.bool (decide (l = m))) w := by
  simp only [binOp]
  have h := equalIn_bytes 9998 n t l m ht hl hm w
  simp [Op.equal, Op.maxDepth, h]

end Go.Proofs.Ythejahhhmkkhoaa
