/-
  THE DOCUMENT'S OWN NUMBERS: the steps of a walk at them; Add, Sub, Of as numbers modulo p.
-/
import Derived.Test.YtchhkejgdcmicaaDoorCalls
import Derived.Test.YtchhkejgdcmicaaDoorSquare
import Derived.Test.YtchhkejgdcmicaaDoorGood
namespace Go.Proofs.YtchhkejgdcmicaaDoor
open Go.RowKit Go.IntWalk Nums

theorem own_load : Own 13 := fun _ _ => by go_simp
theorem own_pack : Own 16 := fun _ _ => by go_simp
theorem own_add : Own 17 := fun _ _ => by go_simp
theorem own_sub : Own 19 := fun _ _ => by go_simp
theorem own_mul : Own 21 := fun _ _ => by go_simp
theorem own_good : Own 24 := fun _ _ => by go_simp
theorem own_of : Own 26 := fun _ _ => by go_simp
theorem own_inv : Own 28 := fun _ _ => by go_simp
theorem own_power : Own 39 := fun _ _ => by go_simp

section
variable {ops : Array Oper} {C0 : World → Prop} {Q : Act → Prop} {a : Act} {o : Oper} {rest : List Oper}
/-- A call that hands back a number. -/
theorem b_num {f : FuncId} {xs : Array Operand} {ats : Array TypeId} {args : Array Value} {B : Int} {x : F} (hg : Region.wanted o (yielded ops a.tmps) = true)
    (hf : Own f) (hc : ∀ w, Calls Tryd.prog f args w (fun e w' => ∃ r, NB B r x ∧ e = .returned (.agg (Is r).toArray) ∧ Below w.heap.size w w'))
    (ho : o.op = .call { callee := .value (.func f), args := xs, argTypes := ats }) (hx : xs.toList.map a.eval = args.toList) (hk : ∀ r, NB B r x → wpB Tryd.prog ops C0 Q rest (a.put o.dst (.agg (Is r).toArray))) : wpB Tryd.prog ops C0 Q (o :: rest) a := by
  refine b_call (f := f) (args := args) (fun v => ∃ r, NB B r x ∧ v = .agg (Is r).toArray) hg (by rw [ho]; rfl) (fun w _ => (hc w).mono ?_) (fun w => by rw [run_call_fn hf ho, map_eval hx]) ?_
  · rintro e w2 ⟨r, hr, rfl, hw2⟩
    exact ⟨_, rfl, ⟨r, hr, rfl⟩, hw2⟩
  · rintro _ ⟨r, hr, rfl⟩
    exact hk r hr
/-- A number is read. -/
theorem b_ld {l : List Int} (g off : Nat) (hl : l.length = 16) (x : Operand) (hg : Region.wanted o (yielded ops a.tmps) = true) (ho : o.op = .load 30 x) (hx : a.eval x = .pointer (some ⟨g, off, none⟩))
    (hc : ∀ w, C0 w → w.rangeAt g off (Is l)) (hk : wpB Tryd.prog ops C0 Q rest (a.put o.dst (.agg (Is l).toArray))) : wpB Tryd.prog ops C0 Q (o :: rest) a :=
  b_mid hg 30 x ho g off hx (Is l) _ hc Tryd.underlying30 rfl (size_num (Is l).toArray (by rw [List.size_toArray, Is_len, hl])) hk
/-- A call that hands back one value, over a class of worlds. -/
theorem b_oneC {f : FuncId} {xs : Array Operand} {ats : Array TypeId} {args : Array Value} {v : Value} (hg : Region.wanted o (yielded ops a.tmps) = true)
    (hf : Own f) (hc : ∀ w, C0 w → Calls Tryd.prog f args w (fun e w' => e = .returned v ∧ Below w.heap.size w w'))
    (ho : o.op = .call { callee := .value (.func f), args := xs, argTypes := ats }) (hx : xs.toList.map a.eval = args.toList) (hk : wpB Tryd.prog ops C0 Q rest (a.put o.dst v)) : wpB Tryd.prog ops C0 Q (o :: rest) a :=
  b_call1 (f := f) (args := args) hg hc (fun w => by rw [run_call_fn hf ho, map_eval hx]) hk
/-- A row of bytes is read. -/
theorem b_by {l : List UInt8} (g : Nat) (hl : l.length = 32) (x : Operand) (hg : Region.wanted o (yielded ops a.tmps) = true) (ho : o.op = .load 22 x) (hx : a.eval x = .pointer (some ⟨g, 0, none⟩))
    (hc : ∀ w, C0 w → Blk w g 22 (By l).toArray) (hk : wpB Tryd.prog ops C0 Q rest (a.put o.dst (.agg (By l).toArray))) : wpB Tryd.prog ops C0 Q (o :: rest) a :=
  b_mid hg 22 x ho g 0 hx (By l) _ (fun w h => (hc w h).range) Tryd.underlying22 rfl (size_hash (By l).toArray (len_by hl)) hk
/-- A choice whose condition is true. -/
theorem b_pick {c x y : Operand} (hg : Region.wanted o (yielded ops a.tmps) = true) (ho : o.op = .pick c x y) (hc : a.eval c = .bool true) (hk : wpB Tryd.prog ops C0 Q rest (a.put o.dst (a.eval x))) : wpB Tryd.prog ops C0 Q (o :: rest) a :=
  b_val hg (fun w _ => by
    unfold execOp
    simp only [ho, hc]
    go_simp) hk
/-- Two equal bools. -/
theorem b_eqb {x y : Operand} {t : TypeId} (q : Bool) (hg : Region.wanted o (yielded ops a.tmps) = true) (ho : o.op = .binOp .eql 4 x y t) (hx : a.eval x = .bool q) (hy : a.eval y = .bool q)
    (hk : wpB Tryd.prog ops C0 Q rest (a.put o.dst (.bool true))) : wpB Tryd.prog ops C0 Q (o :: rest) a :=
  b_val hg (fun w _ => by
    unfold execOp
    simp only [ho, hx, hy]
    go_simp) hk
/-- Two equal rows of bytes. -/
theorem b_eqh {t t' : TypeId} {x y : Operand} (l : List UInt8) (hl : l.length = 32) (hg : Region.wanted o (yielded ops a.tmps) = true) (ho : o.op = .binOp .eql t x y t') (ht : t = 22) (hx : a.eval x = .agg (By l).toArray) (hy : a.eval y = .agg (By l).toArray)
    (hk : wpB Tryd.prog ops C0 Q rest (a.put o.dst (.bool true))) : wpB Tryd.prog ops C0 Q (o :: rest) a := by
  subst ht
  exact b_eq (By l).toArray (By l).toArray hg ho hx hy (by kernel_rfl) (fun w => by rw [equal32 l l hl hl w]; simp) hk
end

/-! ### Sums and small numbers as numbers modulo p -/
theorem add_f {B C : Int} {a b : List Int} {x y : F} (ha : NB B a x) (hb : NB C b y) (hB : B ≤ 2305843009213693952) (hC : C ≤ 2305843009213693952) (w : World) :
    Calls Tryd.prog 17 #[.agg (Is a).toArray, .agg (Is b).toArray] w fun e w' => ∃ r, NB (B + C) r (x + y) ∧ e = .returned (.agg (Is r).toArray) ∧ Below w.heap.size w w' :=
  (add_any a b w ha.len hb.len (ha.bnd.mono hB) (hb.bnd.mono hC)).mono fun _ _ ⟨h1, h2⟩ => ⟨_, ha.adds hb, h1, h2⟩
theorem sub_f {B C : Int} {a b : List Int} {x y : F} (ha : NB B a x) (hb : NB C b y) (hB : B ≤ 2305843009213693952) (hC : C ≤ 2305843009213693952) (w : World) :
    Calls Tryd.prog 19 #[.agg (Is a).toArray, .agg (Is b).toArray] w fun e w' => ∃ r, NB (B + C) r (x - y) ∧ e = .returned (.agg (Is r).toArray) ∧ Below w.heap.size w w' :=
  (sub_any a b w ha.len hb.len (ha.bnd.mono hB) (hb.bnd.mono hC)).mono fun _ _ ⟨h1, h2⟩ => ⟨_, ha.subs hb, h1, h2⟩
theorem of_f (v : Nat) (hv : v < 18446744073709551616) (w : World) :
    Calls Tryd.prog 26 #[.int .u64 v] w fun e w' => ∃ r, NB 65535 r (fof v) ∧ e = .returned (.agg (Is r).toArray) ∧ Below w.heap.size w w' :=
  (of_any v w hv).mono fun _ _ ⟨h1, h2⟩ => ⟨_, NB.of hv, h1, h2⟩

/-! ### 'Pack(x)[0]%2 == 1' -/
section
variable {ops : Array Oper} {C0 : World → Prop} {Q : Act → Prop} {a : Act} {o : Oper} {rest : List Oper}
theorem b_index {x : Operand} (u : List UInt8) (hl : 0 < u.length) (hg : Region.wanted o (yielded ops a.tmps) = true) (ho : o.op = .index 22 x (.const (.int .i64 0))) (hx : a.eval x = .agg (By u).toArray)
    (hk : wpB Tryd.prog ops C0 Q rest (a.put o.dst (.int .u8 ((u[0]!).toNat : Int)))) : wpB Tryd.prog ops C0 Q (o :: rest) a :=
  b_val hg (fun w _ => by
    have h0 : (By u).toArray[0]? = some (.int .u8 ((u[0]!).toNat : Int)) := By_get hl
    unfold execOp
    simp only [ho, hx]
    generalize (u[0]!).toNat = c at *
    generalize (By u).toArray = cs at *
    have h1 : (Instr.index 22 (.agg cs) (.int .i64 0)).run Tryd.prog w = .ok (.int .u8 (c : Int)) w := by
      unfold Instr.index part
      go_simp
    go_simp) hk
theorem b_rem2 {x : Operand} (c : Nat) (hc : c < 256) (hg : Region.wanted o (yielded ops a.tmps) = true) (ho : o.op = .binOp .rem 5 x (.const (.int .u8 2)) 5) (hx : a.eval x = .int .u8 (c : Int))
    (hk : wpB Tryd.prog ops C0 Q rest (a.put o.dst (.int .u8 ((c % 2 : Nat) : Int)))) : wpB Tryd.prog ops C0 Q (o :: rest) a :=
  b_val hg (fun w _ => by
    unfold execOp
    simp only [ho, hx]
    go_simp
    exact Int.tmod_eq_emod_of_nonneg (by omega)) hk
theorem b_is1 {x : Operand} (c : Nat) (hg : Region.wanted o (yielded ops a.tmps) = true) (ho : o.op = .binOp .eql 5 x (.const (.int .u8 1)) 5) (hx : a.eval x = .int .u8 (c : Int))
    (hk : wpB Tryd.prog ops C0 Q rest (a.put o.dst (.bool (decide (c = 1))))) : wpB Tryd.prog ops C0 Q (o :: rest) a :=
  b_val hg (fun w _ => by
    unfold execOp
    simp only [ho, hx]
    go_simp
    rw [Bool.eq_iff_iff]
    simp
    omega) hk
end

end Go.Proofs.YtchhkejgdcmicaaDoor
