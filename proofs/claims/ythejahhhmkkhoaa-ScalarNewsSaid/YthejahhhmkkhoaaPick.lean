/-
  STEPS OF WALKS: bools, choices, rows of bytes, calls over a class of worlds; two new variables, the order forced.
-/
import Derived.Test.YthejahhhmkkhoaaCalls
namespace Go.Proofs.Ythejahhhmkkhoaa
open Go.RowKit Go.IntWalk

section
variable {ops : Array Oper} {C0 : World → Prop} {Q : Act → Prop} {a : Act} {o : Oper} {rest : List Oper}
/-- A call that hands back one value, over a class of worlds. -/
theorem b_oneC {f : FuncId} {xs : Array Operand} {ats : Array TypeId} {args : Array Value} {v : Value} (hg : Region.wanted o (yielded ops a.tmps) = true)
    (hf : Own f) (hc : ∀ w, C0 w → Calls Try.prog f args w (fun e w' => e = .returned v ∧ Below w.heap.size w w'))
    (ho : o.op = .call { callee := .value (.func f), args := xs, argTypes := ats }) (hx : xs.toList.map a.eval = args.toList) (hk : wpB Try.prog ops C0 Q rest (a.put o.dst v)) : wpB Try.prog ops C0 Q (o :: rest) a :=
  b_call1 (f := f) (args := args) hg hc (fun w => by rw [run_call_fn hf ho, map_eval hx]) hk
/-- A row of bytes is read. -/
theorem b_by {l : List UInt8} (g : Nat) (hl : l.length = 32) (x : Operand) (hg : Region.wanted o (yielded ops a.tmps) = true) (ho : o.op = .load 22 x) (hx : a.eval x = .pointer (some ⟨g, 0, none⟩))
    (hc : ∀ w, C0 w → Blk w g 22 (By l).toArray) (hk : wpB Try.prog ops C0 Q rest (a.put o.dst (.agg (By l).toArray))) : wpB Try.prog ops C0 Q (o :: rest) a :=
  b_mid hg 22 x ho g 0 hx (By l) _ (fun w h => (hc w h).range) Try.underlying22 rfl (size_hash (By l).toArray (len_by hl)) hk
/-- A choice whose condition is true. -/
theorem b_pick {c x y : Operand} (hg : Region.wanted o (yielded ops a.tmps) = true) (ho : o.op = .pick c x y) (hc : a.eval c = .bool true) (hk : wpB Try.prog ops C0 Q rest (a.put o.dst (a.eval x))) : wpB Try.prog ops C0 Q (o :: rest) a :=
  b_val hg (fun w _ => by
    unfold execOp
    simp only [ho, hc]
    go_simp) hk
/-- Two equal bools. -/
theorem b_eqb {x y : Operand} {t : TypeId} (q : Bool) (hg : Region.wanted o (yielded ops a.tmps) = true) (ho : o.op = .binOp .eql 4 x y t) (hx : a.eval x = .bool q) (hy : a.eval y = .bool q)
    (hk : wpB Try.prog ops C0 Q rest (a.put o.dst (.bool true))) : wpB Try.prog ops C0 Q (o :: rest) a :=
  b_val hg (fun w _ => by
    unfold execOp
    simp only [ho, hx, hy]
    go_simp) hk
/-- A choice whose condition is false. -/
theorem b_pickF {c x y : Operand} (hg : Region.wanted o (yielded ops a.tmps) = true) (ho : o.op = .pick c x y) (hc : a.eval c = .bool false) (hk : wpB Try.prog ops C0 Q rest (a.put o.dst (a.eval y))) : wpB Try.prog ops C0 Q (o :: rest) a :=
  b_val hg (fun w _ => by
    unfold execOp
    simp only [ho, hc]
    go_simp) hk
/-- Two equal bools, by '!='. -/
theorem b_neqb {x y : Operand} {t : TypeId} (q : Bool) (hg : Region.wanted o (yielded ops a.tmps) = true) (ho : o.op = .binOp .neq 4 x y t) (hx : a.eval x = .bool q) (hy : a.eval y = .bool q)
    (hk : wpB Try.prog ops C0 Q rest (a.put o.dst (.bool false))) : wpB Try.prog ops C0 Q (o :: rest) a :=
  b_val hg (fun w _ => by
    unfold execOp
    simp only [ho, hx, hy]
    go_simp) hk
/-- Two equal rows of bytes. -/
theorem b_eqh {t t' : TypeId} {x y : Operand} (l : List UInt8) (hl : l.length = 32) (hg : Region.wanted o (yielded ops a.tmps) = true) (ho : o.op = .binOp .eql t x y t') (ht : t = 22) (hx : a.eval x = .agg (By l).toArray) (hy : a.eval y = .agg (By l).toArray)
    (hk : wpB Try.prog ops C0 Q rest (a.put o.dst (.bool true))) : wpB Try.prog ops C0 Q (o :: rest) a := by
  subst ht
  exact b_eq (By l).toArray (By l).toArray hg ho hx hy (by kernel_rfl) (fun w => by rw [equal32 l l hl hl w]; simp) hk
end

section
variable {ops : Array Oper} {C0 : World → Prop} {Q : Act → Prop} {a : Act} {o : Oper} {rest : List Oper}
theorem b_index {x : Operand} (u : List UInt8) (hl : 0 < u.length) (hg : Region.wanted o (yielded ops a.tmps) = true) (ho : o.op = .index 22 x (.const (.int .i64 0))) (hx : a.eval x = .agg (By u).toArray)
    (hk : wpB Try.prog ops C0 Q rest (a.put o.dst (.int .u8 ((u[0]!).toNat : Int)))) : wpB Try.prog ops C0 Q (o :: rest) a :=
  b_val hg (fun w _ => by
    have h0 : (By u).toArray[0]? = some (.int .u8 ((u[0]!).toNat : Int)) := By_get hl
    unfold execOp
    simp only [ho, hx]
    generalize (u[0]!).toNat = c at *
    generalize (By u).toArray = cs at *
    have h1 : (Instr.index 22 (.agg cs) (.int .i64 0)).run Try.prog w = .ok (.int .u8 (c : Int)) w := by
      unfold Instr.index part
      go_simp
    go_simp) hk
theorem b_rem2 {x : Operand} (c : Nat) (hc : c < 256) (hg : Region.wanted o (yielded ops a.tmps) = true) (ho : o.op = .binOp .rem 5 x (.const (.int .u8 2)) 5) (hx : a.eval x = .int .u8 (c : Int))
    (hk : wpB Try.prog ops C0 Q rest (a.put o.dst (.int .u8 ((c % 2 : Nat) : Int)))) : wpB Try.prog ops C0 Q (o :: rest) a :=
  b_val hg (fun w _ => by
    unfold execOp
    simp only [ho, hx]
    go_simp
    exact Int.tmod_eq_emod_of_nonneg (by omega)) hk
theorem b_is1 {x : Operand} (c : Nat) (hg : Region.wanted o (yielded ops a.tmps) = true) (ho : o.op = .binOp .eql 5 x (.const (.int .u8 1)) 5) (hx : a.eval x = .int .u8 (c : Int))
    (hk : wpB Try.prog ops C0 Q rest (a.put o.dst (.bool (decide (c = 1))))) : wpB Try.prog ops C0 Q (o :: rest) a :=
  b_val hg (fun w _ => by
    unfold execOp
    simp only [ho, hx]
    go_simp
    rw [Bool.eq_iff_iff]
    simp
    omega) hk
end

/-! ### Two new variables, the order forced -/
theorem reg_var2F {P : Program} {Q : Exit → Act → World → Prop} {id : Nat} {a : Act} {w : World} {l : List Oper} {oa ob os os2 : Oper} (n : Nat) (t t2 : Tmp) (ty ty2 : TypeId) (x x2 : Operand) (zs zs2 : Array Value) (hoa : l[n]? = some oa) (hob : l[n + 1]? = some ob) (hos : l.drop (n + 1 + 1) = [os, os2])
    (hop : os.op = .store ty (.tmp t) x) (hop2 : os2.op = .store ty2 (.tmp t2) x2) (hsg : os.guard = none) (hsg2 : os2.guard = none) (hsd : os.dst = none) (hsd2 : os2.dst = none)
    (hag : oa.guard = none) (hbg : ob.guard = none) (had : oa.dst = some t) (hbd : ob.dst = some t2)
    (hrun : ∀ (a : Act) w, (execOp a.eval oa).run P w = .ok (.value (.pointer (some ⟨w.heap.size, 0, none⟩))) (w.alloc (.cells zs ty)))
    (hrun2 : ∀ (a : Act) w, (execOp a.eval ob).run P w = .ok (.value (.pointer (some ⟨w.heap.size, 0, none⟩))) (w.alloc (.cells zs2 ty2)))
    (h : wpB P l.toArray (Up w) (varEnd2 P Q w t t2 ty ty2 x x2 zs.size zs2.size) (l.take n) a) : (Code.region id l.toArray false).wp P Q a w := by
  have e : l.drop n = [oa, ob, os, os2] := by
    obtain ⟨h1, rfl⟩ := List.getElem?_eq_some_iff.1 hoa
    obtain ⟨h2, rfl⟩ := List.getElem?_eq_some_iff.1 hob
    rw [List.drop_eq_getElem_cons h1, List.drop_eq_getElem_cons h2, hos]
  refine reg_tailF n (wpB_mono (fun a' h' w' hw' => ?_) _ _ h)
  rw [e]
  unfold wpList
  rw [if_pos (by simp [Region.wanted, hag])]
  refine .inl ?_
  unfold Oper.wp
  rw [hrun]
  simp only [Oper.upon]
  rw [had]
  unfold wpList
  rw [if_pos (by simp [Region.wanted, hbg])]
  refine .inl ?_
  unfold Oper.wp
  rw [hrun2]
  simp only [Oper.upon]
  rw [hbd]
  obtain ⟨cells, cells2, h1, h2, h3, h4, z1, z2, i1, i2, o1, o2, hk⟩ := h'
  have hg : w.heap.size ≤ w'.heap.size := hw'.size
  have hg2 : w.heap.size ≤ (w'.alloc (.cells zs ty)).heap.size := by rw [World.size_alloc]; omega
  have hne : w'.heap.size ≠ (w'.alloc (.cells zs ty)).heap.size := by rw [World.size_alloc]; omega
  have hb : Blk ((w'.alloc (.cells zs ty)).alloc (.cells zs2 ty2)) w'.heap.size ty zs := (Blk.new w' ty zs).alloc _
  have hb2 : Blk ((w'.alloc (.cells zs ty)).alloc (.cells zs2 ty2)) (w'.alloc (.cells zs ty)).heap.size ty2 zs2 := Blk.new _ ty2 zs2
  have hU : Up w ((w'.alloc (.cells zs ty)).alloc (.cells zs2 ty2)) := (hw'.alloc _).alloc _
  refine wpList_store_row hsg ty (.tmp t) x hop w'.heap.size (h1 _ _) cells (h3 _ _) ty zs hb i1 z1 o1 ?_
  rw [hsd]
  refine wpList_store_row hsg2 ty2 (.tmp t2) x2 hop2 (w'.alloc (.cells zs ty)).heap.size (h2 _ _) cells2 (h4 _ _) ty2 zs2 (hb2.rowFar (Ne.symm hne) _) i2 z2 o2 ?_
  rw [hsd2]
  exact hk _ _ _ hg hg2 (up_row (up_row hU hg _) hg2 _) ((hb.row _).rowFar hne _) ((hb2.rowFar (Ne.symm hne) _).row _)
section
variable {ops : Array Oper} {C0 : World → Prop} {Q : Act → Prop} {a : Act} {o : Oper} {rest : List Oper}
/-- A call that hands back one of a set. -/
theorem b_callV {f : FuncId} {xs : Array Operand} {ats : Array TypeId} {args : Array Value} (V : Value → Prop) (hg : Region.wanted o (yielded ops a.tmps) = true)
    (hf : Own f) (hc : ∀ w, C0 w → Calls Try.prog f args w (fun e w' => ∃ v, e = .returned v ∧ V v ∧ Below w.heap.size w w'))
    (ho : o.op = .call { callee := .value (.func f), args := xs, argTypes := ats }) (hx : xs.toList.map a.eval = args.toList) (hk : ∀ v, V v → wpB Try.prog ops C0 Q rest (a.put o.dst v)) : wpB Try.prog ops C0 Q (o :: rest) a :=
  b_call (f := f) (args := args) V hg (by rw [ho]; rfl) hc (fun w => by rw [run_call_fn hf ho, map_eval hx]) hk
end

end Go.Proofs.Ythejahhhmkkhoaa
