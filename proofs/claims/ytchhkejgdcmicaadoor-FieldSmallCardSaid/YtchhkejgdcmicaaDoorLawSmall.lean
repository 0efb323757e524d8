/-
  PROVED: FieldSmall answers true for every input: small numbers reckon as words do, where those do not wrap. No condition but the row's own: the table lies as the program's text lays it (the card ties it): the statement '..CardSaid' itself.
-/
import Derived.Test.YtchhkejgdcmicaaDoorLaw3
import Derived.Test.YtchhkejgdcmicaaDoorElFirst
namespace Go.Proofs.YtchhkejgdcmicaaDoor
open Go.RowKit Go.IntWalk Nums
open Go.ChangeShapes Go.WideShapes Go.ChangeAt

section
variable {ops : Array Oper} {C0 : World → Prop} {Q : Act → Prop} {a : Act} {o : Oper} {rest : List Oper}
theorem b_conv32 {x : Operand} (n : Nat) (hn : n < 4294967296) (hg : Region.wanted o (yielded ops a.tmps) = true) (ho : o.op = .convert 51 24 x) (hx : a.eval x = .int .u32 (n : Int))
    (hk : wpB Tryd.prog ops C0 Q rest (a.put o.dst (.int .u64 (n : Int)))) : wpB Tryd.prog ops C0 Q (o :: rest) a :=
  b_val hg (fun w _ => by
    have e : IntKind.u64.wrap (n : Int) = (n : Int) := wrapN n (by omega)
    unfold execOp
    simp only [ho, hx]
    go_simp) hk
theorem b_min32 {x y : Operand} (p q : Nat) (hg : Region.wanted o (yielded ops a.tmps) = true) (ho : o.op = .call { callee := .builtin .min, args := #[x, y], argTypes := #[51, 51] }) (hx : a.eval x = .int .u32 (p : Int)) (hy : a.eval y = .int .u32 (q : Int))
    (hk : wpB Tryd.prog ops C0 Q rest (a.put o.dst (.int .u32 ((min p q : Nat) : Int)))) : wpB Tryd.prog ops C0 Q (o :: rest) a :=
  b_val hg (fun w _ => by
    unfold execOp
    simp only [ho]
    generalize a.eval = ρ at *
    go_simp
    split <;> omega) hk
theorem b_max32 {x y : Operand} (p q : Nat) (hg : Region.wanted o (yielded ops a.tmps) = true) (ho : o.op = .call { callee := .builtin .max, args := #[x, y], argTypes := #[51, 51] }) (hx : a.eval x = .int .u32 (p : Int)) (hy : a.eval y = .int .u32 (q : Int))
    (hk : wpB Tryd.prog ops C0 Q rest (a.put o.dst (.int .u32 ((max p q : Nat) : Int)))) : wpB Tryd.prog ops C0 Q (o :: rest) a :=
  b_val hg (fun w _ => by
    unfold execOp
    simp only [ho]
    generalize a.eval = ρ at *
    go_simp
    split <;> omega) hk
theorem b_subu32 {x y : Operand} {t : TypeId} (p q : Nat) (hp : p < 4294967296) (hq : q ≤ p) (hg : Region.wanted o (yielded ops a.tmps) = true) (ho : o.op = .binOp .sub 51 x y t) (hx : a.eval x = .int .u32 (p : Int)) (hy : a.eval y = .int .u32 (q : Int))
    (hk : wpB Tryd.prog ops C0 Q rest (a.put o.dst (.int .u32 ((p - q : Nat) : Int)))) : wpB Tryd.prog ops C0 Q (o :: rest) a :=
  b_val hg (fun w _ => by
    have e : IntKind.u32.wrap ((p : Int) - (q : Int)) = ((p - q : Nat) : Int) := by rw [IntKind.wrap_u32']; omega
    unfold execOp
    simp only [ho, hx, hy]
    go_simp) hk
theorem b_rem32 {x : Operand} {t : TypeId} (p : Nat) (hp : p < 4294967296) (hg : Region.wanted o (yielded ops a.tmps) = true) (ho : o.op = .binOp .rem 51 x (.const (.int .u32 2)) t) (hx : a.eval x = .int .u32 (p : Int))
    (hk : wpB Tryd.prog ops C0 Q rest (a.put o.dst (.int .u32 ((p % 2 : Nat) : Int)))) : wpB Tryd.prog ops C0 Q (o :: rest) a :=
  b_val hg (fun w _ => by
    unfold execOp
    simp only [ho, hx]
    go_simp
    exact Int.tmod_eq_emod_of_nonneg (by omega)) hk
theorem b_is132 {x : Operand} {t : TypeId} (c : Nat) (hg : Region.wanted o (yielded ops a.tmps) = true) (ho : o.op = .binOp .eql 51 x (.const (.int .u32 1)) t) (hx : a.eval x = .int .u32 (c : Int))
    (hk : wpB Tryd.prog ops C0 Q rest (a.put o.dst (.bool (decide (c = 1))))) : wpB Tryd.prog ops C0 Q (o :: rest) a :=
  b_val hg (fun w _ => by
    unfold execOp
    simp only [ho, hx]
    go_simp
    rw [Bool.eq_iff_iff]
    simp
    omega) hk
end
theorem small_odd {a : Nat} (h : a < 4294967296) : (fof a).val % 2 = a % 2 := by
  rw [fof_val, Nat.mod_eq_of_lt (Nat.lt_trans h (by decide))]

set_option maxRecDepth 100000 in
set_option maxHeartbeats 4000000 in
theorem fieldSmall_walk {a : Nat} {b : Nat} (ha : a < 4294967296) (hb0 : b < 4294967296) (w : World) (hT0 : Tw w) :
    Calls Tryd.prog 10 #[.int .u32 a, .int .u32 b] w fun e w' => e = .returned (.bool true) ∧ Below w.heap.size w w' := by
  have hab : a * b < 18446744073709551616 := Nat.lt_of_le_of_lt (Nat.mul_le_mul (show a ≤ 4294967295 by omega) (show b ≤ 4294967295 by omega)) (by decide)
  go_enter Tryd.func10, Tryd.ntmps10
  refine wp_seq_k fun K hK => ?_
  refine wp_region_lit ?_
  refine wpl_assign rfl rfl ?_
  refine wpl_nil ?_
  go_simp
  refine hK _ _ ?_
  clear hK K
  refine wp_at (fun W => Below w.heap.size w W) (Below.refl _ _) ?_
  rintro W hbe
  have hT := hT0.below hbe
  -- walk small
  refine wp_seq_k fun K hK => ?_
  refine wp_seq_k fun K2 hK2 => ?_
  refine reg_qF ?_
  refine b_oneC rfl own_first (fun w1 hw => first_f w1 (hT.below hw)) rfl rfl ?_
  simp only [Act.put, List.setIfInBounds_toArray, List.set_cons_zero, List.set_cons_succ]
  refine b_not _ rfl rfl rfl ?_
  simp only [Act.put, List.setIfInBounds_toArray, List.set_cons_zero, List.set_cons_succ]
  refine wpB_nil ?_
  intro W1 hw1
  simp only [Exit.then]
  refine hK2 _ _ ?_
  clear hK2 K2
  have hT := hT.below hw1
  have hbe := below_up hbe hw1
  clear hw1
  refine wp_cond (t := false) rfl ?_
  rw [if_neg (by decide)]
  refine wp_skip ?_
  simp only [Exit.then]
  refine hK _ _ ?_
  clear hK K
  refine wp_seq_k fun K hK => ?_
  refine reg_var2F 6 5 6 27 27 (.tmp 13) (.tmp 16) z5 z5 rfl rfl rfl rfl rfl rfl rfl rfl rfl rfl rfl rfl rfl  (exec_alloc rfl (by kernel_rfl)) (exec_alloc rfl (by kernel_rfl)) ?_
  simp only [List.take_succ_cons, List.take_zero]
  refine b_move rfl rfl ?_
  simp only [Act.put, List.setIfInBounds_toArray, List.set_cons_zero, List.set_cons_succ]
  refine b_conv32 a ha rfl rfl rfl ?_
  simp only [Act.put, List.setIfInBounds_toArray, List.set_cons_zero, List.set_cons_succ]
  refine b_fe rfl own_small (fun w1 _ => small_f a (by omega) w1) rfl rfl ?_
  intro r1 v1
  simp only [Act.put, List.setIfInBounds_toArray, List.set_cons_zero, List.set_cons_succ]
  refine b_move rfl rfl ?_
  simp only [Act.put, List.setIfInBounds_toArray, List.set_cons_zero, List.set_cons_succ]
  refine b_conv32 b hb0 rfl rfl rfl ?_
  simp only [Act.put, List.setIfInBounds_toArray, List.set_cons_zero, List.set_cons_succ]
  refine b_fe rfl own_small (fun w1 _ => small_f b (by omega) w1) rfl rfl ?_
  intro r2 v2
  simp only [Act.put, List.setIfInBounds_toArray, List.set_cons_zero, List.set_cons_succ]
  refine wpB_nil ⟨(Us r1).toArray, (Us r2).toArray, fun _ _ => rfl, fun _ _ => rfl, fun _ _ => rfl, fun _ _ => rfl, (len_us v1.len).symm, (len_us v2.len).symm, size_el _ (len_us v1.len), size_el _ (len_us v2.len), Us_one _, Us_one _, fun gx gy W1 hgx hgy hw1 hbx hby => ?_⟩
  simp only [Exit.then, Act.put, List.setIfInBounds_toArray, List.set_cons_zero, List.set_cons_succ]
  refine hK _ _ ?_
  clear hK K
  have hT := hT.below hw1
  have hbe := below_up hbe hw1
  clear hw1
  refine wp_seq_k fun K hK => ?_
  refine reg_qF ?_
  refine b_move rfl rfl ?_
  simp only [Act.put, List.setIfInBounds_toArray, List.set_cons_zero, List.set_cons_succ]
  refine b_move rfl rfl ?_
  simp only [Act.put, List.setIfInBounds_toArray, List.set_cons_zero, List.set_cons_succ]
  refine b_min32 a b rfl rfl rfl rfl ?_
  simp only [Act.put, List.setIfInBounds_toArray, List.set_cons_zero, List.set_cons_succ]
  refine b_move rfl rfl ?_
  simp only [Act.put, List.setIfInBounds_toArray, List.set_cons_zero, List.set_cons_succ]
  refine b_move rfl rfl ?_
  simp only [Act.put, List.setIfInBounds_toArray, List.set_cons_zero, List.set_cons_succ]
  refine b_max32 a b rfl rfl rfl rfl ?_
  simp only [Act.put, List.setIfInBounds_toArray, List.set_cons_zero, List.set_cons_succ]
  refine b_assign rfl rfl ?_
  simp only [Act.put, List.setIfInBounds_toArray, List.set_cons_zero, List.set_cons_succ]
  refine b_assign rfl rfl ?_
  simp only [Act.put, List.setIfInBounds_toArray, List.set_cons_zero, List.set_cons_succ]
  refine wpB_nil ?_
  intro W1 hw1
  simp only [Exit.then]
  refine hK _ _ ?_
  clear hK K
  have hbx := hw1.blk hbx
  have hby := hw1.blk hby
  have hT := hT.below hw1
  have hbe := below_up hbe hw1
  clear hw1
  refine wp_seq_k fun K hK => ?_
  refine reg_qF ?_
  refine b_el gx v1.len _ rfl rfl rfl (fun _ h => h.blk hbx) ?_
  simp only [Act.put, List.setIfInBounds_toArray, List.set_cons_zero, List.set_cons_succ]
  refine b_el gy v2.len _ rfl rfl rfl (fun _ h => h.blk hby) ?_
  simp only [Act.put, List.setIfInBounds_toArray, List.set_cons_zero, List.set_cons_succ]
  refine b_fe rfl own_eladd (fun w1 _ => eladd_f v1 v2 w1) rfl rfl ?_
  intro r3 v3
  simp only [Act.put, List.setIfInBounds_toArray, List.set_cons_zero, List.set_cons_succ]
  rw [← fof_add] at v3
  refine b_one rfl own_hash (fun w1 => hash_f v3 w1) rfl rfl ?_
  simp only [Act.put, List.setIfInBounds_toArray, List.set_cons_zero, List.set_cons_succ]
  refine b_move rfl rfl ?_
  simp only [Act.put, List.setIfInBounds_toArray, List.set_cons_zero, List.set_cons_succ]
  refine b_conv32 a ha rfl rfl rfl ?_
  simp only [Act.put, List.setIfInBounds_toArray, List.set_cons_zero, List.set_cons_succ]
  refine b_move rfl rfl ?_
  simp only [Act.put, List.setIfInBounds_toArray, List.set_cons_zero, List.set_cons_succ]
  refine b_conv32 b hb0 rfl rfl rfl ?_
  simp only [Act.put, List.setIfInBounds_toArray, List.set_cons_zero, List.set_cons_succ]
  refine b_addu a b rfl rfl rfl rfl (by omega) ?_
  simp only [Act.put, List.setIfInBounds_toArray, List.set_cons_zero, List.set_cons_succ]
  refine b_fe rfl own_small (fun w1 _ => small_f (a + b) (by omega) w1) rfl rfl ?_
  intro r4 v4
  simp only [Act.put, List.setIfInBounds_toArray, List.set_cons_zero, List.set_cons_succ]
  refine b_one rfl own_hash (fun w1 => hash_f v4 w1) rfl rfl ?_
  simp only [Act.put, List.setIfInBounds_toArray, List.set_cons_zero, List.set_cons_succ]
  refine b_eqh (enc (_)) (enc_len _) rfl rfl rfl rfl rfl ?_
  simp only [Act.put, List.setIfInBounds_toArray, List.set_cons_zero, List.set_cons_succ]
  refine b_move rfl rfl ?_
  simp only [Act.put, List.setIfInBounds_toArray, List.set_cons_zero, List.set_cons_succ]
  refine b_el gx v1.len _ rfl rfl rfl (fun _ h => h.blk hbx) ?_
  simp only [Act.put, List.setIfInBounds_toArray, List.set_cons_zero, List.set_cons_succ]
  refine b_el gy v2.len _ rfl rfl rfl (fun _ h => h.blk hby) ?_
  simp only [Act.put, List.setIfInBounds_toArray, List.set_cons_zero, List.set_cons_succ]
  refine b_fe rfl own_elmul (fun w1 _ => elmul_f v1 v2 w1) rfl rfl ?_
  intro r5 v5
  simp only [Act.put, List.setIfInBounds_toArray, List.set_cons_zero, List.set_cons_succ]
  rw [← fof_mul] at v5
  refine b_one rfl own_hash (fun w1 => hash_f v5 w1) rfl rfl ?_
  simp only [Act.put, List.setIfInBounds_toArray, List.set_cons_zero, List.set_cons_succ]
  refine b_move rfl rfl ?_
  simp only [Act.put, List.setIfInBounds_toArray, List.set_cons_zero, List.set_cons_succ]
  refine b_conv32 a ha rfl rfl rfl ?_
  simp only [Act.put, List.setIfInBounds_toArray, List.set_cons_zero, List.set_cons_succ]
  refine b_move rfl rfl ?_
  simp only [Act.put, List.setIfInBounds_toArray, List.set_cons_zero, List.set_cons_succ]
  refine b_conv32 b hb0 rfl rfl rfl ?_
  simp only [Act.put, List.setIfInBounds_toArray, List.set_cons_zero, List.set_cons_succ]
  refine b_mulu a b rfl rfl rfl rfl (by omega) ?_
  simp only [Act.put, List.setIfInBounds_toArray, List.set_cons_zero, List.set_cons_succ]
  refine b_fe rfl own_small (fun w1 _ => small_f (a * b) (by omega) w1) rfl rfl ?_
  intro r6 v6
  simp only [Act.put, List.setIfInBounds_toArray, List.set_cons_zero, List.set_cons_succ]
  refine b_one rfl own_hash (fun w1 => hash_f v6 w1) rfl rfl ?_
  simp only [Act.put, List.setIfInBounds_toArray, List.set_cons_zero, List.set_cons_succ]
  refine b_eqh (enc (_)) (enc_len _) rfl rfl rfl rfl rfl ?_
  simp only [Act.put, List.setIfInBounds_toArray, List.set_cons_zero, List.set_cons_succ]
  refine b_pick rfl rfl rfl ?_
  simp only [Act.put, List.setIfInBounds_toArray, List.set_cons_zero, List.set_cons_succ]
  refine b_move rfl rfl ?_
  simp only [Act.put, List.setIfInBounds_toArray, List.set_cons_zero, List.set_cons_succ]
  refine b_move rfl rfl ?_
  simp only [Act.put, List.setIfInBounds_toArray, List.set_cons_zero, List.set_cons_succ]
  refine b_conv32 (max a b) (by omega) rfl rfl rfl ?_
  simp only [Act.put, List.setIfInBounds_toArray, List.set_cons_zero, List.set_cons_succ]
  refine b_fe rfl own_small (fun w1 _ => small_f (max a b) (by omega) w1) rfl rfl ?_
  intro r7 v7
  simp only [Act.put, List.setIfInBounds_toArray, List.set_cons_zero, List.set_cons_succ]
  refine b_move rfl rfl ?_
  simp only [Act.put, List.setIfInBounds_toArray, List.set_cons_zero, List.set_cons_succ]
  refine b_conv32 (min a b) (by omega) rfl rfl rfl ?_
  simp only [Act.put, List.setIfInBounds_toArray, List.set_cons_zero, List.set_cons_succ]
  refine b_fe rfl own_small (fun w1 _ => small_f (min a b) (by omega) w1) rfl rfl ?_
  intro r8 v8
  simp only [Act.put, List.setIfInBounds_toArray, List.set_cons_zero, List.set_cons_succ]
  refine b_fe rfl own_elsub (fun w1 hw => elsub_f v7 v8 w1 (hT.below hw)) rfl rfl ?_
  intro r9 v9
  simp only [Act.put, List.setIfInBounds_toArray, List.set_cons_zero, List.set_cons_succ]
  rw [← fof_sub (by omega)] at v9
  refine b_one rfl own_hash (fun w1 => hash_f v9 w1) rfl rfl ?_
  simp only [Act.put, List.setIfInBounds_toArray, List.set_cons_zero, List.set_cons_succ]
  refine b_move rfl rfl ?_
  simp only [Act.put, List.setIfInBounds_toArray, List.set_cons_zero, List.set_cons_succ]
  refine b_move rfl rfl ?_
  simp only [Act.put, List.setIfInBounds_toArray, List.set_cons_zero, List.set_cons_succ]
  refine b_subu32 (max a b) (min a b) (by omega) (by omega) rfl rfl rfl rfl ?_
  simp only [Act.put, List.setIfInBounds_toArray, List.set_cons_zero, List.set_cons_succ]
  refine b_conv32 (max a b - min a b) (by omega) rfl rfl rfl ?_
  simp only [Act.put, List.setIfInBounds_toArray, List.set_cons_zero, List.set_cons_succ]
  refine b_fe rfl own_small (fun w1 _ => small_f (max a b - min a b) (by omega) w1) rfl rfl ?_
  intro r10 v10
  simp only [Act.put, List.setIfInBounds_toArray, List.set_cons_zero, List.set_cons_succ]
  refine b_one rfl own_hash (fun w1 => hash_f v10 w1) rfl rfl ?_
  simp only [Act.put, List.setIfInBounds_toArray, List.set_cons_zero, List.set_cons_succ]
  refine b_eqh (enc (_)) (enc_len _) rfl rfl rfl rfl rfl ?_
  simp only [Act.put, List.setIfInBounds_toArray, List.set_cons_zero, List.set_cons_succ]
  refine b_pick rfl rfl rfl ?_
  simp only [Act.put, List.setIfInBounds_toArray, List.set_cons_zero, List.set_cons_succ]
  refine b_move rfl rfl ?_
  simp only [Act.put, List.setIfInBounds_toArray, List.set_cons_zero, List.set_cons_succ]
  refine b_el gx v1.len _ rfl rfl rfl (fun _ h => h.blk hbx) ?_
  simp only [Act.put, List.setIfInBounds_toArray, List.set_cons_zero, List.set_cons_succ]
  refine b_one rfl own_odd (fun w1 => odd_f v1 w1) rfl rfl ?_
  simp only [Act.put, List.setIfInBounds_toArray, List.set_cons_zero, List.set_cons_succ]
  refine b_move rfl rfl ?_
  simp only [Act.put, List.setIfInBounds_toArray, List.set_cons_zero, List.set_cons_succ]
  refine b_rem32 a ha rfl rfl rfl ?_
  simp only [Act.put, List.setIfInBounds_toArray, List.set_cons_zero, List.set_cons_succ]
  refine b_is132 (a % 2) rfl rfl rfl ?_
  simp only [Act.put, List.setIfInBounds_toArray, List.set_cons_zero, List.set_cons_succ]
  refine b_eqb _ rfl rfl rfl (congrArg Value.bool (show decide (a % 2 = 1) = decide ((fof a).val % 2 = 1) by rw [small_odd ha])) ?_
  simp only [Act.put, List.setIfInBounds_toArray, List.set_cons_zero, List.set_cons_succ]
  refine b_pick rfl rfl rfl ?_
  simp only [Act.put, List.setIfInBounds_toArray, List.set_cons_zero, List.set_cons_succ]
  refine b_assign rfl rfl ?_
  refine wpB_nil ?_
  intro W1 hw1
  have hbe := below_up hbe hw1
  clear hw1
  simp only [Exit.then]
  refine hK _ _ ?_
  clear hK K
  go_wp2
  go_ret
  exact ⟨rfl, hbe⟩
  -- end small

theorem fieldSmall_types : ∀ t ∈ Tryd.f10.params.toList, Tryd.prog.readableRec t = true ∧ t < Tryd.prog.types.size := by
  have h : Tryd.f10.params.toList.all (fun t => Tryd.prog.readableRec t && decide (t < Tryd.prog.types.size)) = true := by kernel_rfl
  intro t ht
  have := List.all_eq_true.1 h t ht
  simpa using this

set_option maxRecDepth 100000 in
theorem fieldSmall_lifted (os : Os) (started : os.Started) (H : Type) (enc : TypeId × Value → H) :
    ReturnsInHanded {} Tryd.checked os 10 .any (fun w args => (Rows.fieldSmallSpec.pre enc Tryd.prog Tryd.f10 [] false w args ∧ laidMetH Tryd.prog laid1 w) ∧ sizedMet enc Tryd.prog Tryd.f10 (OpenSpec.ofChange Rows.fieldSmallSpec) false w args)
      (Rows.fieldSmallSpec.post enc Tryd.prog Tryd.f10 false true false false) := by
  refine returnsInHanded_of_change_and (C := Tryd.checked) (X := fun w _ => laidMetH Tryd.prog laid1 w) (fun _ _ _ hh h => h.of_heap hh) own started (by kernel_rfl) Tryd.func10
    (ChangeSpec.witness_shaped (enc := enc) (C := Tryd.checked) (os := os) (X := fun w _ => laidMetH Tryd.prog laid1 w) false (World.doorLaid Tryd.prog 400 os) #[.int .u32 0, .int .u32 0] 8 rfl (World.shaped_of_RefB (by kernel_rfl) (by kernel_rfl)) (by kernel_rfl) (by kernel_rfl) (by kernel_rfl) (door_met os _)) ?_
  intro W base args ds gs before hval0 hW _ _ hL _
  have hval : ∀ (j : Nat) t v, Tryd.f10.params[j]? = some t → args[j]? = some v → Value.okWide Tryd.prog W .any base t v := hval0
  have hW' : DataW.Whole enc Tryd.prog Tryd.f10.params.toList Rows.fieldSmallSpec.vars false W args.toList ds gs before := hW
  obtain ⟨p, q, hA0, hV, rfl, hfz, hnd⟩ := hW
  have hA : DataW.TrodAll enc Tryd.prog W 0 (fun _ => true) true Tryd.f10.params.toList args.toList ds p := hA0
  rw [Tryd.params10] at hA hval
  obtain ⟨v0, v1, d0, d1, p0, p1, rfl, rfl, rfl, h0, h1⟩ := trodAll_two hA
  obtain ⟨rfl, rfl⟩ := trodVars_none hV
  obtain ⟨n0, rfl, rfl, rfl, w0⟩ := open_int Tryd.underlying51 (hval 0 51 v0 rfl rfl) h0
  have b0 := bounds_u32 w0
  obtain ⟨a, rfl⟩ := Int.eq_ofNat_of_zero_le b0.1
  obtain ⟨n1, rfl, rfl, rfl, w1⟩ := open_int Tryd.underlying51 (hval 1 51 v1 rfl rfl) h1
  have b1 := bounds_u32 w1
  obtain ⟨b, rfl⟩ := Int.eq_ofNat_of_zero_le b1.1
  clear hA0 hval0
  refine (fieldSmall_walk (by omega) (by omega) W (of_laid hL)).mono fun e W' ⟨he, hb⟩ => ?_
  exact ⟨_, he, law_post (by kernel_rfl) rfl fieldSmall_types hW' rfl hb⟩

theorem fieldSmall_holds : Rows.FieldSmallSaid :=
  OpenClaim.holds_of_wide 10 Tryd.f10 rfl rfl rfl rfl rfl rfl rfl ⟨rfl, rfl, rfl, rfl, rfl⟩ rfl rfl rfl rfl rfl (by kernel_rfl) Tryd.func10 (by kernel_rfl)
    (of_decide_eq_true (by kernel_rfl)) (by unfold Func.isWrapper; first | (rw [if_pos (by decide +kernel)]; kernel_rfl) | (rw [if_neg (by decide +kernel)]; exact ⟨rfl, rfl⟩))
    (fun os started H enc _ => fieldSmall_lifted os started H enc)

theorem fieldSmall_card_holds : Rows.FieldSmallCardSaid :=
  Claim7.holds_tied_plain_at .later [] [.data] true Rows.fieldSmallCard.stood.harness false
    fieldSmall_holds (fun _ h => by cases h) (by kernel_rfl) (fun _ h => by cases h) fieldSmall_row_tie rfl ⟨rfl, rfl⟩ (by kernel_rfl) rfl
    (fun f fn hf hfn => by
      obtain rfl : f = 10 := Option.some.inj ((show Tryd.prog.funcNamed "witan/witanlaw03.FieldSmall" = some 10 by kernel_rfl).symm.trans hf) |>.symm
      obtain rfl : fn = Tryd.f10 := (Option.some.inj (Tryd.func10.symm.trans hfn)).symm
      exact ⟨by kernel_rfl, fun j t ht => by
        have hm := Array.mem_of_getElem? ht
        have hall : (Tryd.f10.params.toList.all fun u => !Tryd.prog.wantsStandIn u) = true := by kernel_rfl
        have h2 := List.all_eq_true.1 hall t (Array.mem_toList_iff.2 hm)
        show Tryd.prog.wantsStandIn t = false
        simpa using h2⟩)
    (by kernel_rfl)
#print axioms fieldSmall_card_holds
end Go.Proofs.YtchhkejgdcmicaaDoor
