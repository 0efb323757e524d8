/-
  STEPS OF WALKS OVER WORDS AND THE FIELD'S NUMBERS, in regions that draw their order too.
-/
import Derived.Test.YtchhkejgdcmicaaDoorElSub
import Derived.Test.YtchhkejgdcmicaaDoorElWhole
import Derived.Test.YtchhkejgdcmicaaDoorElMul0
namespace Go.Proofs.YtchhkejgdcmicaaDoor
open Go.RowKit Go.IntWalk Nums

theorem own_low : Own 35 := fun _ _ => by go_simp
theorem own_high : Own 36 := fun _ _ => by go_simp
theorem own_carried : Own 31 := fun _ _ => by go_simp
theorem own_whole : Own 32 := fun _ _ => by go_simp
theorem own_elmul : Own 20 := fun _ _ => by go_simp
theorem own_eladd : Own 14 := fun _ _ => by go_simp
theorem own_elsub : Own 18 := fun _ _ => by go_simp
theorem own_hash : Own 15 := fun _ _ => by go_simp
theorem own_small : Own 25 := fun _ _ => by go_simp

section
variable {ops : Array Oper} {C0 : World → Prop} {Q : Act → Prop} {a : Act} {o : Oper} {rest : List Oper}
theorem b_mulu {x y : Operand} {t : TypeId} (p q : Nat) (hg : Region.wanted o (yielded ops a.tmps) = true) (ho : o.op = .binOp .mul 24 x y t) (hx : a.eval x = .int .u64 (p : Int)) (hy : a.eval y = .int .u64 (q : Int)) (hb : p * q < 18446744073709551616)
    (hk : wpB Tryd.prog ops C0 Q rest (a.put o.dst (.int .u64 ((p * q : Nat) : Int)))) : wpB Tryd.prog ops C0 Q (o :: rest) a :=
  b_val hg (fun w _ => by
    have e : IntKind.u64.wrap ((p : Int) * (q : Int)) = ((p * q : Nat) : Int) := by rw [IntKind.wrap_u64, ← Int.natCast_mul]; omega
    unfold execOp
    simp only [ho, hx, hy]
    go_simp) hk
theorem b_addu {x y : Operand} {t : TypeId} (p q : Nat) (hg : Region.wanted o (yielded ops a.tmps) = true) (ho : o.op = .binOp .add 24 x y t) (hx : a.eval x = .int .u64 (p : Int)) (hy : a.eval y = .int .u64 (q : Int)) (hb : p + q < 18446744073709551616)
    (hk : wpB Tryd.prog ops C0 Q rest (a.put o.dst (.int .u64 ((p + q : Nat) : Int)))) : wpB Tryd.prog ops C0 Q (o :: rest) a :=
  b_val hg (fun w _ => by
    have e : IntKind.u64.wrap ((p : Int) + (q : Int)) = ((p + q : Nat) : Int) := by rw [IntKind.wrap_u64]; omega
    unfold execOp
    simp only [ho, hx, hy]
    go_simp) hk
/-- A number of the field is read. -/
theorem b_el {l : List Nat} (g : Nat) (hl : l.length = 5) (x : Operand) (hg : Region.wanted o (yielded ops a.tmps) = true) (ho : o.op = .load 27 x) (hx : a.eval x = .pointer (some ⟨g, 0, none⟩))
    (hc : ∀ w, C0 w → Blk w g 27 (Us l).toArray) (hk : wpB Tryd.prog ops C0 Q rest (a.put o.dst (.agg (Us l).toArray))) : wpB Tryd.prog ops C0 Q (o :: rest) a :=
  b_mid hg 27 x ho g 0 hx (Us l) _ (fun w h => (hc w h).range) Tryd.underlying27 rfl (size_el (Us l).toArray (by rw [List.size_toArray, Us_len, hl])) hk
theorem b_sum {s : Nat} (g : Nat) (x : Operand) (hg : Region.wanted o (yielded ops a.tmps) = true) (ho : o.op = .load 54 x) (hx : a.eval x = .pointer (some ⟨g, 0, none⟩))
    (hc : ∀ w, C0 w → Blk w g 54 (W2 s)) (hk : wpB Tryd.prog ops C0 Q rest (a.put o.dst (.agg (W2 s)))) : wpB Tryd.prog ops C0 Q (o :: rest) a :=
  b_mid hg 54 x ho g 0 hx (Us [s / 18446744073709551616, s % 18446744073709551616]) _ (fun w h => Blk.range (hc w h)) Tryd.underlying54 rfl (size_sum _ rfl) hk
/-- A call that hands back a number of the field. -/
theorem b_fe {f : FuncId} {xs : Array Operand} {ats : Array TypeId} {args : Array Value} {x : F} (hg : Region.wanted o (yielded ops a.tmps) = true)
    (hf : Own f) (hc : ∀ w, C0 w → Calls Tryd.prog f args w (fun e w' => ∃ r, EB r x ∧ e = .returned (.agg (Us r).toArray) ∧ Below w.heap.size w w'))
    (ho : o.op = .call { callee := .value (.func f), args := xs, argTypes := ats }) (hx : xs.toList.map a.eval = args.toList) (hk : ∀ r, EB r x → wpB Tryd.prog ops C0 Q rest (a.put o.dst (.agg (Us r).toArray))) : wpB Tryd.prog ops C0 Q (o :: rest) a := by
  refine b_call (f := f) (args := args) (fun v => ∃ r, EB r x ∧ v = .agg (Us r).toArray) hg (by rw [ho]; rfl) (fun w hw => (hc w hw).mono ?_) (fun w => by rw [run_call_fn hf ho, map_eval hx]) ?_
  · rintro e w2 ⟨r, hr, rfl, hw2⟩
    exact ⟨_, rfl, ⟨r, hr, rfl⟩, hw2⟩
  · rintro _ ⟨r, hr, rfl⟩
    exact hk r hr
end

/-! ### Five words put together -/
theorem built_u5 (v0 v1 v2 v3 v4 : Int) : Tryd.prog.built 25 [(0, .int .u64 v0), (1, .int .u64 v1), (2, .int .u64 v2), (3, .int .u64 v3), (4, .int .u64 v4)] = some #[.int .u64 v0, .int .u64 v1, .int .u64 v2, .int .u64 v3, .int .u64 v4] := by kernel_rfl
theorem built_el (v0 v1 v2 v3 v4 : Int) : Tryd.prog.built 27 [(0, .agg #[.int .u64 v0, .int .u64 v1, .int .u64 v2, .int .u64 v3, .int .u64 v4])] = some #[.int .u64 v0, .int .u64 v1, .int .u64 v2, .int .u64 v3, .int .u64 v4] := by kernel_rfl
theorem built_zero : Tryd.prog.built 27 [] = some z5 := by kernel_rfl
end Go.Proofs.YtchhkejgdcmicaaDoor
