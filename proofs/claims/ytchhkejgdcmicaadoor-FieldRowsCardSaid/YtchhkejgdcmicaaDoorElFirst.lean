/-
  THE FIELD'S LAWS: in, first.
-/
import Derived.Test.YtchhkejgdcmicaaDoorElRoots
import Derived.Test.YtchhkejgdcmicaaDoorElNew
import Derived.Test.YtchhkejgdcmicaaDoorNumSteps
namespace Go.Proofs.YtchhkejgdcmicaaDoor
open Go.RowKit Go.IntWalk Nums

theorem own_new3 : Own 23 := fun _ _ => by go_simp
theorem own_in : Own 12 := fun _ _ => by go_simp
theorem own_first : Own 11 := fun _ _ => by go_simp

section
variable {ops : Array Oper} {C0 : World → Prop} {Q : Act → Prop} {a : Act} {o : Oper} {rest : List Oper}
/-- A call that hands back one of a set. -/
theorem b_callV {f : FuncId} {xs : Array Operand} {ats : Array TypeId} {args : Array Value} (V : Value → Prop) (hg : Region.wanted o (yielded ops a.tmps) = true)
    (hf : Own f) (hc : ∀ w, C0 w → Calls Tryd.prog f args w (fun e w' => ∃ v, e = .returned v ∧ V v ∧ Below w.heap.size w w'))
    (ho : o.op = .call { callee := .value (.func f), args := xs, argTypes := ats }) (hx : xs.toList.map a.eval = args.toList) (hk : ∀ v, V v → wpB Tryd.prog ops C0 Q rest (a.put o.dst v)) : wpB Tryd.prog ops C0 Q (o :: rest) a :=
  b_call (f := f) (args := args) V hg (by rw [ho]; rfl) hc (fun w => by rw [run_call_fn hf ho, map_eval hx]) hk
end

/-- A number's own bytes are a number. -/
theorem good_enc (x : F) : isGood (enc x) = true := by
  have h : le (enc x) % 57896044618658097711785492504343953926634992332820282019728792003956564819968 = x.val := by
    rw [le_enc]
    exact Nat.mod_eq_of_lt (Nat.lt_trans x.isLt p_lt)
  unfold isGood
  rw [h, fof_of, decide_eq_true (enc_top x), decide_eq_true rfl]
  rfl
theorem new_enc (x : F) (w : World) :
    Calls Tryd.prog 23 #[.agg (By (enc x)).toArray] w fun e w' => ∃ v, e = .returned v ∧ (∃ r, EB r x ∧ v = .tuple #[.agg (Us r).toArray, .bool true]) ∧ Below w.heap.size w w' := by
  have h : le (enc x) % 57896044618658097711785492504343953926634992332820282019728792003956564819968 = x.val := by
    rw [le_enc]
    exact Nat.mod_eq_of_lt (Nat.lt_trans x.isLt p_lt)
  refine (new_f (enc_len x) w).mono ?_
  rintro e w' ⟨⟨_, r, hE, rfl⟩ | ⟨hb, _⟩, hw⟩
  · rw [h, fof_of] at hE
    exact ⟨_, rfl, ⟨r, hE, rfl⟩, hw⟩
  · rw [good_enc] at hb
    cases hb

set_option maxRecDepth 100000 in
set_option maxHeartbeats 1000000 in
theorem in_f {b : List UInt8} (hl : b.length = 32) (w : World) :
    Calls Tryd.prog 12 #[.agg (By b).toArray] w fun e w' => ∃ r, EB r (fof (le b % 57896044618658097711785492504343953926634992332820282019728792003956564819968)) ∧ e = .returned (.agg (Us r).toArray) ∧ Below w.heap.size w w' := by
  have HN := fun w1 => new_enc (fof (le b % 57896044618658097711785492504343953926634992332820282019728792003956564819968)) w1
  generalize hX : fof (le b % 57896044618658097711785492504343953926634992332820282019728792003956564819968) = X at *
  go_enter Tryd.func12, Tryd.ntmps12
  refine wp_seq_k fun K hK => ?_
  refine wp_region_lit ?_
  refine wpl_box (By b).toArray rfl rfl rfl ?_
  refine wpl_alloc (zs := z5) rfl rfl (by kernel_rfl) ?_
  refine wpl_nil ?_
  go_simp
  refine hK _ _ ?_
  clear hK K
  refine wp_at (fun W => Blk W w.heap.size 22 (By b).toArray ∧ Blk W (w.heap.size + 1) 27 z5 ∧ Below w.heap.size w W)
    ⟨heap_alloc2_old w _ _, heap_alloc2_new w _ _, ((Below.refl _ _).alloc (Nat.le_refl _) _).alloc (by simp) _⟩ ?_
  rintro W ⟨h0, ho, hbe⟩
  subst hX
  -- walk in
  refine wp_seq_k fun K hK => ?_
  refine reg_tailF 7 ?_
  simp only [List.take_succ_cons, List.take_zero, List.drop_succ_cons, List.drop_zero]
  refine b_by w.heap.size hl _ rfl rfl rfl (fun _ h => h.blk h0) ?_
  simp only [Act.put, List.setIfInBounds_toArray, List.set_cons_zero, List.set_cons_succ]
  refine b_one rfl own_load (fun w1 => load_any b w1 hl) rfl rfl ?_
  simp only [Act.put, List.setIfInBounds_toArray, List.set_cons_zero, List.set_cons_succ]
  refine b_one rfl own_pack (fun w1 => pack_f ((load_f hl).mono (by omega)) w1) rfl rfl ?_
  simp only [Act.put, List.setIfInBounds_toArray, List.set_cons_zero, List.set_cons_succ]
  refine b_callV (fun v => ∃ r, EB r (fof (le b % 57896044618658097711785492504343953926634992332820282019728792003956564819968)) ∧ v = .tuple #[.agg (Us r).toArray, .bool true]) rfl own_new3 (fun w1 _ => HN w1) rfl rfl ?_
  rintro _ ⟨r, hE, rfl⟩
  simp only [Act.put, List.setIfInBounds_toArray, List.set_cons_zero, List.set_cons_succ]
  refine b_move rfl rfl ?_
  simp only [Act.put, List.setIfInBounds_toArray, List.set_cons_zero, List.set_cons_succ]
  refine b_extract (.agg (Us r).toArray) rfl rfl rfl rfl ?_
  simp only [Act.put, List.setIfInBounds_toArray, List.set_cons_zero, List.set_cons_succ]
  refine b_extract (.bool true) rfl rfl rfl rfl ?_
  simp only [Act.put, List.setIfInBounds_toArray, List.set_cons_zero, List.set_cons_succ]
  refine wpB_nil ?_
  intro W1 hw1
  refine wpl_alloc (zs := z5) rfl rfl (by kernel_rfl) ?_
  simp only [Act.put, List.setIfInBounds_toArray, List.set_cons_zero, List.set_cons_succ]
  refine wpList_store_row rfl 27 _ _ rfl W1.heap.size rfl (Us r).toArray rfl 27 _ (Blk.new W1 _ _) (size_el _ (len_us hE.len)) (len_us hE.len).symm (Us_one _) ?_
  refine wpl_assign rfl rfl ?_
  refine wpl_nil ?_
  simp only [Exit.then, Act.put, List.setIfInBounds_toArray, List.set_cons_zero, List.set_cons_succ]
  refine hK _ _ ?_
  clear hK K
  have hx : Blk ((W1.alloc (Obj.cells z5 27)).setRow W1.heap.size (Us r).toArray) W1.heap.size 27 (Us r).toArray := (Blk.new W1 _ _).row _
  have ho := ((hw1.blk ho).alloc (Obj.cells z5 27)).rowFar (Nat.ne_of_lt (hw1.blk ho).lt) (g' := W1.heap.size) (Us r).toArray
  have hb1 := below_up hbe hw1
  have hbe := below_setRow (hb1.alloc hb1.size (Obj.cells z5 27)) hb1.size (Us r).toArray
  clear hw1 hb1
  generalize World.setRow _ W1.heap.size (Us r).toArray = W2 at *
  refine wp_seq_k fun K hK => ?_
  refine wp_region_lit ?_
  refine wpList_load_row rfl 27 _ rfl W1.heap.size rfl 27 (Us r).toArray (0, 0) _ hx Tryd.underlying27 rfl (size_el _ (len_us hE.len)) ?_
  simp only [Act.put, List.setIfInBounds_toArray, List.set_cons_zero, List.set_cons_succ]
  refine wpList_store_row rfl 27 _ _ rfl (w.heap.size + 1) rfl (Us r).toArray rfl 27 _ ho (size_el _ (len_us hE.len)) (len_us hE.len).symm (Us_one _) ?_
  refine wpl_nil ?_
  simp only [Exit.then, Act.put]
  refine hK _ _ ?_
  clear hK K
  refine wp_ret ?_
  refine bodyPost_ret (results_cell_row rfl _ _ (w.heap.size + 1) 27 (Us r).toArray (0, 0) _ rfl (ho.row _) Tryd.underlying27 rfl (size_el _ (len_us hE.len))) rfl ⟨r, hE, rfl, ?_⟩
  exact below_setRow hbe (by omega) _
  -- end in

/-! ### The roots of 4 and 2 -/
theorem one_mul3 (x : F) : fof 1 * x * x = x * x := by
  rw [fof_one]
  grind only
theorem root4 {x : F} (h : fof 1 * x * x = fof 4) (he : x.val % 2 = 0) : x = fof 2 := by
  rw [one_mul3, show (4 : Nat) = 2 * 2 from rfl, fof_mul] at h
  rcases root_or prime_p h with h1 | h1
  · exact h1
  · rw [h1, neg_odd (by decide)] at he
    exact absurd he (by decide)
theorem no_root2 (x : F) : fof 1 * x * x ≠ fof 2 := by
  rw [one_mul3]
  refine no_root (by decide) ?_ x
  have h : fpow (fof 2) ph = im * im := by
    unfold im
    rw [← fpow_add]
    rfl
  rw [h, im_im]
  decide
theorem two_inv : fof 2 * finv (fof 2) = fof 1 := by
  rw [fof_one]
  exact mul_finv prime_p (by decide)
theorem built_h2 : Tryd.prog.built 22 [(0, .int .u8 2)] = some (By (enc (fof 2))).toArray := by kernel_rfl
theorem built_h1 : Tryd.prog.built 22 [(0, .int .u8 1)] = some (By (enc (fof 1))).toArray := by kernel_rfl
theorem built_h0 : Tryd.prog.built 22 [] = some (By (enc (fof 0))).toArray := by kernel_rfl

set_option maxRecDepth 100000 in
set_option maxHeartbeats 1000000 in
theorem first_f (w : World) (hT0 : Tw w) :
    Calls Tryd.prog 11 #[] w fun e w' => e = .returned (.bool true) ∧ Below w.heap.size w w' := by
  have HR4 : ∀ (a b : List Nat), EB a (fof 4) → EB b (fof 1) → ∀ w1, Tw w1 → Calls Tryd.prog 29 #[.agg (Us a).toArray, .agg (Us b).toArray] w1 fun e w' => ∃ v, e = .returned v ∧ (∃ r, EB r (fof 2) ∧ v = .tuple #[.agg (Us r).toArray, .bool true]) ∧ Below w1.heap.size w1 w' := by
    intro a b ha hb w1 hT1
    refine (elroot_f ha hb w1 hT1).mono ?_
    rintro e w' ⟨⟨r, x, hE, _, ⟨h1, h2⟩, rfl⟩ | ⟨hno, _⟩, hw⟩
    · rw [root4 h1 h2] at hE
      exact ⟨_, rfl, ⟨r, hE, rfl⟩, hw⟩
    · exfalso
      rcases hno with h0 | hno
      · revert h0
        decide
      · refine hno (fof 2) ?_
        rw [one_mul3, ← fof_mul]
  have HR2 : ∀ (a b : List Nat), EB a (fof 2) → EB b (fof 1) → ∀ w1, Tw w1 → Calls Tryd.prog 29 #[.agg (Us a).toArray, .agg (Us b).toArray] w1 fun e w' => ∃ v, e = .returned v ∧ v = .tuple #[.agg z5, .bool false] ∧ Below w1.heap.size w1 w' := by
    intro a b ha hb w1 hT1
    refine (elroot_f ha hb w1 hT1).mono ?_
    rintro e w' ⟨⟨r, x, _, _, ⟨h1, _⟩, _⟩ | ⟨_, rfl⟩, hw⟩
    · exact absurd h1 (no_root2 x)
    · exact ⟨_, rfl, rfl, hw⟩
  go_enter Tryd.func11, Tryd.ntmps11
  refine wp_seq_k fun K hK => ?_
  refine wp_region_lit ?_
  refine wpl_assign rfl rfl ?_
  refine wpl_nil ?_
  go_simp
  refine hK _ _ ?_
  clear hK K
  refine wp_at (fun W => Below w.heap.size w W) (Below.refl _ _) ?_
  rintro W hbe
  have hT := hT0.below hbe
  -- walk first
  refine wp_seq_k fun K hK => ?_
  refine reg_tailF 6 ?_
  simp only [List.take_succ_cons, List.take_zero, List.drop_succ_cons, List.drop_zero]
  refine b_fe rfl own_small (fun w1 _ => small_f 4 (by omega) w1) rfl rfl ?_
  intro r1 v1
  simp only [Act.put, List.setIfInBounds_toArray, List.set_cons_zero, List.set_cons_succ]
  refine b_fe rfl own_small (fun w1 _ => small_f 1 (by omega) w1) rfl rfl ?_
  intro r2 v2
  simp only [Act.put, List.setIfInBounds_toArray, List.set_cons_zero, List.set_cons_succ]
  refine b_callV (fun v => ∃ r, EB r (fof 2) ∧ v = .tuple #[.agg (Us r).toArray, .bool true]) rfl own_root3 (fun w1 hw => (HR4 r1 r2 v1 v2 w1 (hT.below hw))) rfl rfl ?_
  rintro _ ⟨r, hE, rfl⟩
  simp only [Act.put, List.setIfInBounds_toArray, List.set_cons_zero, List.set_cons_succ]
  refine b_move rfl rfl ?_
  simp only [Act.put, List.setIfInBounds_toArray, List.set_cons_zero, List.set_cons_succ]
  refine b_extract (.agg (Us r).toArray) rfl rfl rfl rfl ?_
  simp only [Act.put, List.setIfInBounds_toArray, List.set_cons_zero, List.set_cons_succ]
  refine b_extract (.bool true) rfl rfl rfl rfl ?_
  simp only [Act.put, List.setIfInBounds_toArray, List.set_cons_zero, List.set_cons_succ]
  refine wpB_nil ?_
  intro W1 hw1
  refine wpl_alloc (zs := z5) rfl rfl (by kernel_rfl) ?_
  simp only [Act.put, List.setIfInBounds_toArray, List.set_cons_zero, List.set_cons_succ]
  refine wpList_store_row rfl 27 _ _ rfl W1.heap.size rfl (Us r).toArray rfl 27 _ (Blk.new W1 _ _) (size_el _ (len_us hE.len)) (len_us hE.len).symm (Us_one _) ?_
  refine wpl_assign rfl rfl ?_
  refine wpl_nil ?_
  simp only [Exit.then, Act.put, List.setIfInBounds_toArray, List.set_cons_zero, List.set_cons_succ]
  refine hK _ _ ?_
  clear hK K
  have hx : Blk ((W1.alloc (Obj.cells z5 27)).setRow W1.heap.size (Us r).toArray) W1.heap.size 27 (Us r).toArray := (Blk.new W1 _ _).row _
  have hb1 := below_up hbe hw1
  have hbe := below_setRow (hb1.alloc hb1.size (Obj.cells z5 27)) hb1.size (Us r).toArray
  have hT := hT0.below hbe
  clear hw1 hb1
  generalize World.setRow _ W1.heap.size (Us r).toArray = W2 at *
  generalize W1.heap.size = gx at *
  refine wp_seq_k fun K hK => ?_
  refine reg_tailF 6 ?_
  simp only [List.take_succ_cons, List.take_zero, List.drop_succ_cons, List.drop_zero]
  refine b_fe rfl own_small (fun w1 _ => small_f 2 (by omega) w1) rfl rfl ?_
  intro r3 v3
  simp only [Act.put, List.setIfInBounds_toArray, List.set_cons_zero, List.set_cons_succ]
  refine b_fe rfl own_small (fun w1 _ => small_f 1 (by omega) w1) rfl rfl ?_
  intro r4 v4
  simp only [Act.put, List.setIfInBounds_toArray, List.set_cons_zero, List.set_cons_succ]
  refine b_callV (fun v => v = .tuple #[.agg z5, .bool false]) rfl own_root3 (fun w1 hw => (HR2 r3 r4 v3 v4 w1 (hT.below hw))) rfl rfl ?_
  rintro _ rfl
  simp only [Act.put, List.setIfInBounds_toArray, List.set_cons_zero, List.set_cons_succ]
  refine b_move rfl rfl ?_
  simp only [Act.put, List.setIfInBounds_toArray, List.set_cons_zero, List.set_cons_succ]
  refine b_extract (.agg z5) rfl rfl rfl rfl ?_
  simp only [Act.put, List.setIfInBounds_toArray, List.set_cons_zero, List.set_cons_succ]
  refine b_extract (.bool false) rfl rfl rfl rfl ?_
  simp only [Act.put, List.setIfInBounds_toArray, List.set_cons_zero, List.set_cons_succ]
  refine wpB_nil ?_
  intro W3 hw3
  refine wpl_alloc (zs := z5) rfl rfl (by kernel_rfl) ?_
  simp only [Act.put, List.setIfInBounds_toArray, List.set_cons_zero, List.set_cons_succ]
  refine wpList_store_row rfl 27 _ _ rfl W3.heap.size rfl z5 rfl 27 _ (Blk.new W3 _ _) (size_el _ rfl) rfl (Us_one _) ?_
  refine wpl_assign rfl rfl ?_
  refine wpl_nil ?_
  simp only [Exit.then, Act.put, List.setIfInBounds_toArray, List.set_cons_zero, List.set_cons_succ]
  refine hK _ _ ?_
  clear hK K
  have hx := ((hw3.blk hx).alloc (Obj.cells z5 27)).rowFar (Nat.ne_of_lt (hw3.blk hx).lt) (g' := W3.heap.size) z5
  have hb1 := below_up hbe hw3
  have hbe := below_setRow (hb1.alloc hb1.size (Obj.cells z5 27)) hb1.size z5
  have hT := hT0.below hbe
  clear hw3 hb1
  generalize World.setRow _ W3.heap.size z5 = W4 at *
  refine wp_seq_k fun K hK => ?_
  refine reg_qF ?_
  refine b_move rfl rfl ?_
  simp only [Act.put, List.setIfInBounds_toArray, List.set_cons_zero, List.set_cons_succ]
  refine b_move rfl rfl ?_
  simp only [Act.put, List.setIfInBounds_toArray, List.set_cons_zero, List.set_cons_succ]
  refine b_move rfl rfl ?_
  simp only [Act.put, List.setIfInBounds_toArray, List.set_cons_zero, List.set_cons_succ]
  refine b_not _ rfl rfl rfl ?_
  simp only [Act.put, List.setIfInBounds_toArray, List.set_cons_zero, List.set_cons_succ]
  refine b_pick rfl rfl rfl ?_
  simp only [Act.put, List.setIfInBounds_toArray, List.set_cons_zero, List.set_cons_succ]
  refine b_move rfl rfl ?_
  simp only [Act.put, List.setIfInBounds_toArray, List.set_cons_zero, List.set_cons_succ]
  refine b_el gx hE.len _ rfl rfl rfl (fun _ h => h.blk hx) ?_
  simp only [Act.put, List.setIfInBounds_toArray, List.set_cons_zero, List.set_cons_succ]
  refine b_one rfl own_hash (fun w1 => hash_f hE w1) rfl rfl ?_
  simp only [Act.put, List.setIfInBounds_toArray, List.set_cons_zero, List.set_cons_succ]
  refine b_build _ _ rfl rfl rfl built_h2 ?_
  simp only [Act.put, List.setIfInBounds_toArray, List.set_cons_zero, List.set_cons_succ]
  refine b_eqh (enc (fof 2)) (enc_len _) rfl rfl rfl rfl rfl ?_
  simp only [Act.put, List.setIfInBounds_toArray, List.set_cons_zero, List.set_cons_succ]
  refine b_pick rfl rfl rfl ?_
  simp only [Act.put, List.setIfInBounds_toArray, List.set_cons_zero, List.set_cons_succ]
  refine b_move rfl rfl ?_
  simp only [Act.put, List.setIfInBounds_toArray, List.set_cons_zero, List.set_cons_succ]
  refine b_fe rfl own_small (fun w1 _ => small_f 2 (by omega) w1) rfl rfl ?_
  intro r5 v5
  simp only [Act.put, List.setIfInBounds_toArray, List.set_cons_zero, List.set_cons_succ]
  refine b_fe rfl own_small (fun w1 _ => small_f 2 (by omega) w1) rfl rfl ?_
  intro r6 v6
  simp only [Act.put, List.setIfInBounds_toArray, List.set_cons_zero, List.set_cons_succ]
  refine b_fe rfl own_inv3 (fun w1 _ => elinv_f v6 w1) rfl rfl ?_
  intro r7 v7
  simp only [Act.put, List.setIfInBounds_toArray, List.set_cons_zero, List.set_cons_succ]
  refine b_fe rfl own_elmul (fun w1 _ => elmul_f v5 v7 w1) rfl rfl ?_
  intro r8 v8
  simp only [Act.put, List.setIfInBounds_toArray, List.set_cons_zero, List.set_cons_succ]
  rw [two_inv] at v8
  refine b_one rfl own_hash (fun w1 => hash_f v8 w1) rfl rfl ?_
  simp only [Act.put, List.setIfInBounds_toArray, List.set_cons_zero, List.set_cons_succ]
  refine b_build _ _ rfl rfl rfl built_h1 ?_
  simp only [Act.put, List.setIfInBounds_toArray, List.set_cons_zero, List.set_cons_succ]
  refine b_eqh (enc (fof 1)) (enc_len _) rfl rfl rfl rfl rfl ?_
  simp only [Act.put, List.setIfInBounds_toArray, List.set_cons_zero, List.set_cons_succ]
  refine b_pick rfl rfl rfl ?_
  simp only [Act.put, List.setIfInBounds_toArray, List.set_cons_zero, List.set_cons_succ]
  refine b_assign rfl rfl ?_
  refine wpB_nil ?_
  intro W1 hw1
  have hbe := below_up hbe hw1
  clear hw1
  simp only [Exit.then]
  refine hK _ _ ?_
  clear hK K
  go_wp2
  go_ret
  exact ⟨rfl, hbe⟩
  -- end first
end Go.Proofs.YtchhkejgdcmicaaDoor
