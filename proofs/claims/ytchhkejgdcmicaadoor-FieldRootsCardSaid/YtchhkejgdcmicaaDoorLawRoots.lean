/-
  PROVED: FieldRoots answers true for every input: which quotients have roots, that the square of a root is the quotient, and that the even one is told. No condition but the row's own: the table lies as the program's text lays it (the card ties it): the statement '..CardSaid' itself.
-/
import Derived.Test.YtchhkejgdcmicaaDoorLaw3
import Derived.Test.YtchhkejgdcmicaaDoorElFirst
namespace Go.Proofs.YtchhkejgdcmicaaDoor
open Go.RowKit Go.IntWalk Nums
open Go.ChangeShapes Go.WideShapes Go.ChangeAt

theorem eb_zero0 : EB [0, 0, 0, 0, 0] (fof 0) := by
  rw [fof_zero]
  exact eb_zero
theorem rootV {a b : List Nat} {u v : F} (hA : EB a u) (hB : EB b v) (w : World) (hT : Tw w) :
    Calls Tryd.prog 29 #[.agg (Us a).toArray, .agg (Us b).toArray] w fun e w' => ∃ y, e = .returned y ∧
      ((∃ r x, EB r x ∧ v ≠ 0 ∧ (v * x * x = u ∧ x.val % 2 = 0) ∧ y = .tuple #[.agg (Us r).toArray, .bool true]) ∨ ((v = 0 ∨ ∀ x, v * x * x ≠ u) ∧ y = .tuple #[.agg (Us [0, 0, 0, 0, 0]).toArray, .bool false])) ∧ Below w.heap.size w w' := by
  refine (elroot_f hA hB w hT).mono ?_
  rintro e w' ⟨⟨r, x, h1, h2, h3, rfl⟩ | ⟨h, rfl⟩, hw⟩
  · exact ⟨_, rfl, .inl ⟨r, x, h1, h2, h3, rfl⟩, hw⟩
  · exact ⟨_, rfl, .inr ⟨h, rfl⟩, hw⟩
theorem e_ph : (2 : Nat) ^ 254 - 10 = ph := by decide
theorem root_sq {u v x : F} (h : v * x * x = u) : x * x * v = u := by
  rw [← h]
  grind only
theorem sq_true {u v x : F} (hv : v ≠ 0) (h : v * x * x = u) : decide (fpow (u * finv v) (2 ^ 254 - 10) = 1 ∨ fpow (u * finv v) (2 ^ 254 - 10) = 0) = true := by
  rw [e_ph]
  refine decide_eq_true ((square_iff _).1 ⟨x, ?_⟩)
  have h1 := mul_finv prime_p hv
  rw [← h]
  generalize finv v = i at *
  grind only
theorem sq_false {u v : F} (hv : ¬ v = fof 0) (h : v = 0 ∨ ∀ x, v * x * x ≠ u) : decide (fpow (u * finv v) (2 ^ 254 - 10) = 1 ∨ fpow (u * finv v) (2 ^ 254 - 10) = 0) = false := by
  rw [fof_zero] at hv
  rw [e_ph]
  refine decide_eq_false fun hs => ?_
  obtain ⟨x, hx⟩ := (square_iff _).2 hs
  rcases h with h | h
  · exact hv h
  · apply h x
    have h1 := mul_finv prime_p hv
    generalize finv v = i at *
    grind only

set_option maxRecDepth 100000 in
set_option maxHeartbeats 4000000 in
theorem fieldRoots_walk {a : List UInt8} {b : List UInt8} (la : a.length = 32) (lb : b.length = 32) (w : World) (hT0 : Tw w) :
    Calls Tryd.prog 8 #[.agg (By a).toArray, .agg (By b).toArray] w fun e w' => e = .returned (.bool true) ∧ Below w.heap.size w w' := by
  go_enter Tryd.func8, Tryd.ntmps8
  refine wp_seq_k fun K hK => ?_
  refine wp_region_lit ?_
  refine wpl_box (By a).toArray rfl rfl rfl ?_
  refine wpl_box (By b).toArray rfl rfl rfl ?_
  refine wpl_assign rfl rfl ?_
  refine wpl_nil ?_
  go_simp
  refine hK _ _ ?_
  clear hK K
  refine wp_at (fun W => Blk W (w.heap.size) 22 (By a).toArray ∧ Blk W (w.heap.size + 1) 22 (By b).toArray ∧ Below w.heap.size w W)
    ⟨heap_alloc2_old w _ _, heap_alloc2_new w _ _, ((Below.refl _ _).alloc (Nat.le_refl _) _).alloc (by simp) _⟩ ?_
  rintro W ⟨ha, hb, hbe⟩
  have hT := hT0.below hbe
  -- walk roots
  refine wp_seq_k fun K hK => ?_
  refine wp_seq_k fun K2 hK2 => ?_
  refine reg_qF ?_
  refine b_oneC rfl own_first (fun w1 hw => first_f w1 (hT.below hw)) rfl rfl ?_
  simp only [Act.put, List.setIfInBounds_toArray, List.set_cons_zero, List.set_cons_succ]
  refine b_not _ rfl rfl rfl ?_
  simp only [Act.put, List.setIfInBounds_toArray, List.set_cons_zero, List.set_cons_succ]
  refine wpB_nil ?_
  intro W1 hw1
  simp only [Exit.then]
  refine hK2 _ _ ?_
  clear hK2 K2
  have ha := hw1.blk ha
  have hb := hw1.blk hb
  have hT := hT.below hw1
  have hbe := below_up hbe hw1
  clear hw1
  refine wp_cond (t := false) rfl ?_
  rw [if_neg (by decide)]
  refine wp_skip ?_
  simp only [Exit.then]
  refine hK _ _ ?_
  clear hK K
  refine wp_seq_k fun K hK => ?_
  refine reg_var2 4 5 6 27 27 (.tmp 12) (.tmp 14) z5 z5 rfl rfl rfl rfl rfl rfl rfl rfl rfl rfl rfl rfl rfl (by decide) (by kernel_rfl) (tail_ok (by kernel_rfl)) (by kernel_rfl) (by kernel_rfl) (by kernel_rfl) (fun _ _ d _ _ h => by cases d <;> exact h) (exec_alloc rfl (by kernel_rfl)) (exec_alloc rfl (by kernel_rfl)) ?_
  simp only [List.take_succ_cons, List.take_zero]
  refine b_by w.heap.size la _ rfl rfl rfl (fun _ h => h.blk ha) ?_
  simp only [Act.put, List.setIfInBounds_toArray, List.set_cons_zero, List.set_cons_succ]
  refine b_fe rfl own_in (fun w1 _ => in_f la w1) rfl rfl ?_
  intro r1 v1
  simp only [Act.put, List.setIfInBounds_toArray, List.set_cons_zero, List.set_cons_succ]
  refine b_by (w.heap.size + 1) lb _ rfl rfl rfl (fun _ h => h.blk hb) ?_
  simp only [Act.put, List.setIfInBounds_toArray, List.set_cons_zero, List.set_cons_succ]
  refine b_fe rfl own_in (fun w1 _ => in_f lb w1) rfl rfl ?_
  intro r2 v2
  simp only [Act.put, List.setIfInBounds_toArray, List.set_cons_zero, List.set_cons_succ]
  refine wpB_nil ⟨(Us r1).toArray, (Us r2).toArray, fun _ _ => rfl, fun _ _ => rfl, fun _ _ => rfl, fun _ _ => rfl, (len_us v1.len).symm, (len_us v2.len).symm, size_el _ (len_us v1.len), size_el _ (len_us v2.len), Us_one _, Us_one _, fun gu gv W1 hgu hgv hw1 hbu hbv => ?_⟩
  simp only [Exit.then, Act.put, List.setIfInBounds_toArray, List.set_cons_zero, List.set_cons_succ]
  refine hK _ _ ?_
  clear hK K
  have ha := hw1.blk ha
  have hb := hw1.blk hb
  have hT := hT.below hw1
  have hbe := below_up hbe hw1
  clear hw1
  refine wp_seq_k fun K hK => ?_
  refine reg_tailF 6 ?_
  simp only [List.take_succ_cons, List.take_zero, List.drop_succ_cons, List.drop_zero]
  refine b_el gu v1.len _ rfl rfl rfl (fun _ h => h.blk hbu) ?_
  simp only [Act.put, List.setIfInBounds_toArray, List.set_cons_zero, List.set_cons_succ]
  refine b_el gv v2.len _ rfl rfl rfl (fun _ h => h.blk hbv) ?_
  simp only [Act.put, List.setIfInBounds_toArray, List.set_cons_zero, List.set_cons_succ]
  refine b_callV _ rfl own_root3 (fun w1 hw => rootV v1 v2 w1 (hT.below hw)) rfl rfl ?_
  rintro _ (⟨r, x, hE, hv, ⟨hx, hev⟩, rfl⟩ | ⟨hno, rfl⟩)
  · simp only [Act.put, List.setIfInBounds_toArray, List.set_cons_zero, List.set_cons_succ]
    refine b_move rfl rfl ?_
    simp only [Act.put, List.setIfInBounds_toArray, List.set_cons_zero, List.set_cons_succ]
    refine b_extract (.agg (Us r).toArray) rfl rfl rfl rfl ?_
    simp only [Act.put, List.setIfInBounds_toArray, List.set_cons_zero, List.set_cons_succ]
    refine b_extract (.bool true) rfl rfl rfl rfl ?_
    simp only [Act.put, List.setIfInBounds_toArray, List.set_cons_zero, List.set_cons_succ]
    refine wpB_nil ?_
    intro W0 hw0
    refine wpl_alloc (zs := z5) rfl rfl (by kernel_rfl) ?_
    simp only [Act.put, List.setIfInBounds_toArray, List.set_cons_zero, List.set_cons_succ]
    have hb0 := Blk.new W0 27 z5
    have hg0 := hw0.size
    have hw1 := hw0.alloc (Obj.cells z5 27)
    clear hw0
    generalize W0.alloc (Obj.cells z5 27) = W1 at *
    generalize W0.heap.size = gx at *
    refine wpList_store_row rfl 27 _ _ rfl gx rfl (Us r).toArray rfl 27 _ hb0 (size_el _ (len_us hE.len)) (len_us hE.len).symm (Us_one _) ?_
    refine wpl_assign rfl rfl ?_
    refine wpl_nil ?_
    simp only [Exit.then, Act.put, List.setIfInBounds_toArray, List.set_cons_zero, List.set_cons_succ]
    refine hK _ _ ?_
    clear hK K
    have ha := (hw1.blk ha).rowFar (Nat.ne_of_lt (Nat.lt_of_lt_of_le (ha).lt hg0)) (g' := gx) (Us r).toArray
    have hb := (hw1.blk hb).rowFar (Nat.ne_of_lt (Nat.lt_of_lt_of_le (hb).lt hg0)) (g' := gx) (Us r).toArray
    have hbu := (hw1.blk hbu).rowFar (Nat.ne_of_lt (Nat.lt_of_lt_of_le (hbu).lt hg0)) (g' := gx) (Us r).toArray
    have hbv := (hw1.blk hbv).rowFar (Nat.ne_of_lt (Nat.lt_of_lt_of_le (hbv).lt hg0)) (g' := gx) (Us r).toArray
    have hbx := hb0.row (Us r).toArray
    have hbe := below_setRow (below_up hbe hw1) (Nat.le_trans hbe.size hg0) (Us r).toArray
    have hT := hT0.below hbe
    clear hw1 hb0
    generalize World.setRow _ gx (Us r).toArray = W2 at *
    refine wp_seq_k fun K hK => ?_
    refine wp_seq_k fun K2 hK2 => ?_
    refine reg_qF ?_
    refine b_el gv v2.len _ rfl rfl rfl (fun _ h => h.blk hbv) ?_
    simp only [Act.put, List.setIfInBounds_toArray, List.set_cons_zero, List.set_cons_succ]
    refine b_one rfl own_hash (fun w1 => hash_f v2 w1) rfl rfl ?_
    simp only [Act.put, List.setIfInBounds_toArray, List.set_cons_zero, List.set_cons_succ]
    refine b_build _ _ rfl rfl rfl built_h0 ?_
    simp only [Act.put, List.setIfInBounds_toArray, List.set_cons_zero, List.set_cons_succ]
    refine b_eq (By (enc (fof (le b % 57896044618658097711785492504343953926634992332820282019728792003956564819968)))).toArray (By (enc (fof 0))).toArray rfl rfl rfl rfl (by kernel_rfl) (fun w1 => eqd (fof (le b % 57896044618658097711785492504343953926634992332820282019728792003956564819968)) (fof 0) w1) ?_
    simp only [Act.put, List.setIfInBounds_toArray, List.set_cons_zero, List.set_cons_succ]
    refine wpB_nil ?_
    intro W1 hw1
    simp only [Exit.then]
    refine hK2 _ _ ?_
    clear hK2 K2
    have ha := hw1.blk ha
    have hb := hw1.blk hb
    have hbu := hw1.blk hbu
    have hbv := hw1.blk hbv
    have hbx := hw1.blk hbx
    have hT := hT.below hw1
    have hbe := below_up hbe hw1
    clear hw1
    refine wp_cond (t := false) (congrArg Value.bool (decide_eq_false (fun h => hv (h.trans fof_zero)))) ?_
    rw [if_neg (by decide)]
    refine wp_skip ?_
    simp only [Exit.then]
    refine hK _ _ ?_
    clear hK K
    refine wp_seq_k fun K hK => ?_
    refine wp_seq_k fun K2 hK2 => ?_
    refine reg_q (by kernel_rfl) (tail_ok (by kernel_rfl)) (fun _ _ d _ _ h => by cases d <;> exact h) ?_
    refine b_move rfl rfl ?_
    simp only [Act.put, List.setIfInBounds_toArray, List.set_cons_zero, List.set_cons_succ]
    refine b_by w.heap.size la _ rfl rfl rfl (fun _ h => h.blk ha) ?_
    simp only [Act.put, List.setIfInBounds_toArray, List.set_cons_zero, List.set_cons_succ]
    refine b_one rfl own_load (fun w1 => load_any a w1 la) rfl rfl ?_
    simp only [Act.put, List.setIfInBounds_toArray, List.set_cons_zero, List.set_cons_succ]
    refine b_by (w.heap.size + 1) lb _ rfl rfl rfl (fun _ h => h.blk hb) ?_
    simp only [Act.put, List.setIfInBounds_toArray, List.set_cons_zero, List.set_cons_succ]
    refine b_one rfl own_load (fun w1 => load_any b w1 lb) rfl rfl ?_
    simp only [Act.put, List.setIfInBounds_toArray, List.set_cons_zero, List.set_cons_succ]
    refine b_one rfl (fun _ _ => by go_simp) (fun w1 => square_f ((load_f la).mono (by omega)) ((load_f lb).mono (by omega)) w1) rfl rfl ?_
    simp only [Act.put, List.setIfInBounds_toArray, List.set_cons_zero, List.set_cons_succ]
    rw [sq_true hv hx]
    refine b_neqb _ rfl rfl rfl rfl ?_
    simp only [Act.put, List.setIfInBounds_toArray, List.set_cons_zero, List.set_cons_succ]
    refine wpB_nil ?_
    intro W1 hw1
    simp only [Exit.then]
    refine hK2 _ _ ?_
    clear hK2 K2
    have ha := hw1.blk ha
    have hb := hw1.blk hb
    have hbu := hw1.blk hbu
    have hbv := hw1.blk hbv
    have hbx := hw1.blk hbx
    have hT := hT.below hw1
    have hbe := below_up hbe hw1
    clear hw1
    refine wp_cond (t := false) (congrArg Value.bool (rfl)) ?_
    rw [if_neg (by decide)]
    refine wp_skip ?_
    simp only [Exit.then]
    refine hK _ _ ?_
    clear hK K
    refine wp_seq_k fun K hK => ?_
    refine wp_seq_k fun K2 hK2 => ?_
    refine reg_qF ?_
    refine b_move rfl rfl ?_
    simp only [Act.put, List.setIfInBounds_toArray, List.set_cons_zero, List.set_cons_succ]
    refine b_not _ rfl rfl rfl ?_
    simp only [Act.put, List.setIfInBounds_toArray, List.set_cons_zero, List.set_cons_succ]
    refine wpB_nil ?_
    intro W1 hw1
    simp only [Exit.then]
    refine hK2 _ _ ?_
    clear hK2 K2
    have ha := hw1.blk ha
    have hb := hw1.blk hb
    have hbu := hw1.blk hbu
    have hbv := hw1.blk hbv
    have hbx := hw1.blk hbx
    have hT := hT.below hw1
    have hbe := below_up hbe hw1
    clear hw1
    refine wp_cond (t := false) (congrArg Value.bool (rfl)) ?_
    rw [if_neg (by decide)]
    refine wp_skip ?_
    simp only [Exit.then]
    refine hK _ _ ?_
    clear hK K
    refine wp_seq_k fun K hK => ?_
    refine reg_q (by kernel_rfl) (tail_ok (by kernel_rfl)) (fun _ _ d _ _ h => by cases d <;> exact h) ?_
    refine b_el gx hE.len _ rfl rfl rfl (fun _ h => h.blk hbx) ?_
    simp only [Act.put, List.setIfInBounds_toArray, List.set_cons_zero, List.set_cons_succ]
    refine b_el gx hE.len _ rfl rfl rfl (fun _ h => h.blk hbx) ?_
    simp only [Act.put, List.setIfInBounds_toArray, List.set_cons_zero, List.set_cons_succ]
    refine b_fe rfl own_elmul (fun w1 _ => elmul_f hE hE w1) rfl rfl ?_
    intro r3 v3
    simp only [Act.put, List.setIfInBounds_toArray, List.set_cons_zero, List.set_cons_succ]
    refine b_el gv v2.len _ rfl rfl rfl (fun _ h => h.blk hbv) ?_
    simp only [Act.put, List.setIfInBounds_toArray, List.set_cons_zero, List.set_cons_succ]
    refine b_fe rfl own_elmul (fun w1 _ => elmul_f v3 v2 w1) rfl rfl ?_
    intro r4 v4
    simp only [Act.put, List.setIfInBounds_toArray, List.set_cons_zero, List.set_cons_succ]
    rw [root_sq hx] at v4
    refine b_one rfl own_hash (fun w1 => hash_f v4 w1) rfl rfl ?_
    simp only [Act.put, List.setIfInBounds_toArray, List.set_cons_zero, List.set_cons_succ]
    refine b_el gu v1.len _ rfl rfl rfl (fun _ h => h.blk hbu) ?_
    simp only [Act.put, List.setIfInBounds_toArray, List.set_cons_zero, List.set_cons_succ]
    refine b_one rfl own_hash (fun w1 => hash_f v1 w1) rfl rfl ?_
    simp only [Act.put, List.setIfInBounds_toArray, List.set_cons_zero, List.set_cons_succ]
    refine b_eqh (enc (_)) (enc_len _) rfl rfl rfl rfl rfl ?_
    simp only [Act.put, List.setIfInBounds_toArray, List.set_cons_zero, List.set_cons_succ]
    refine b_move rfl rfl ?_
    simp only [Act.put, List.setIfInBounds_toArray, List.set_cons_zero, List.set_cons_succ]
    refine b_el gx hE.len _ rfl rfl rfl (fun _ h => h.blk hbx) ?_
    simp only [Act.put, List.setIfInBounds_toArray, List.set_cons_zero, List.set_cons_succ]
    refine b_one rfl own_odd (fun w1 => odd_f hE w1) rfl rfl ?_
    simp only [Act.put, List.setIfInBounds_toArray, List.set_cons_zero, List.set_cons_succ]
    rw [decide_eq_false (show ¬ x.val % 2 = 1 by omega)]
    refine b_not _ rfl rfl rfl ?_
    simp only [Act.put, List.setIfInBounds_toArray, List.set_cons_zero, List.set_cons_succ]
    refine b_pick rfl rfl rfl ?_
    simp only [Act.put, List.setIfInBounds_toArray, List.set_cons_zero, List.set_cons_succ]
    refine b_assign rfl rfl ?_
    refine wpB_nil ?_
    intro W1 hw1
    have hbe := below_up hbe hw1
    clear hw1
    simp only [Exit.then]
    refine hK _ _ ?_
    clear hK K
    go_wp2
    go_ret
    exact ⟨rfl, hbe⟩
  · simp only [Act.put, List.setIfInBounds_toArray, List.set_cons_zero, List.set_cons_succ]
    refine b_move rfl rfl ?_
    simp only [Act.put, List.setIfInBounds_toArray, List.set_cons_zero, List.set_cons_succ]
    refine b_extract (.agg (Us [0, 0, 0, 0, 0]).toArray) rfl rfl rfl rfl ?_
    simp only [Act.put, List.setIfInBounds_toArray, List.set_cons_zero, List.set_cons_succ]
    refine b_extract (.bool false) rfl rfl rfl rfl ?_
    simp only [Act.put, List.setIfInBounds_toArray, List.set_cons_zero, List.set_cons_succ]
    refine wpB_nil ?_
    intro W0 hw0
    refine wpl_alloc (zs := z5) rfl rfl (by kernel_rfl) ?_
    simp only [Act.put, List.setIfInBounds_toArray, List.set_cons_zero, List.set_cons_succ]
    have hb0 := Blk.new W0 27 z5
    have hg0 := hw0.size
    have hw1 := hw0.alloc (Obj.cells z5 27)
    clear hw0
    generalize W0.alloc (Obj.cells z5 27) = W1 at *
    generalize W0.heap.size = gx at *
    refine wpList_store_row rfl 27 _ _ rfl gx rfl (Us [0, 0, 0, 0, 0]).toArray rfl 27 _ hb0 (size_el _ (len_us eb_zero0.len)) (len_us eb_zero0.len).symm (Us_one _) ?_
    refine wpl_assign rfl rfl ?_
    refine wpl_nil ?_
    simp only [Exit.then, Act.put, List.setIfInBounds_toArray, List.set_cons_zero, List.set_cons_succ]
    refine hK _ _ ?_
    clear hK K
    have ha := (hw1.blk ha).rowFar (Nat.ne_of_lt (Nat.lt_of_lt_of_le (ha).lt hg0)) (g' := gx) (Us [0, 0, 0, 0, 0]).toArray
    have hb := (hw1.blk hb).rowFar (Nat.ne_of_lt (Nat.lt_of_lt_of_le (hb).lt hg0)) (g' := gx) (Us [0, 0, 0, 0, 0]).toArray
    have hbu := (hw1.blk hbu).rowFar (Nat.ne_of_lt (Nat.lt_of_lt_of_le (hbu).lt hg0)) (g' := gx) (Us [0, 0, 0, 0, 0]).toArray
    have hbv := (hw1.blk hbv).rowFar (Nat.ne_of_lt (Nat.lt_of_lt_of_le (hbv).lt hg0)) (g' := gx) (Us [0, 0, 0, 0, 0]).toArray
    have hbx := hb0.row (Us [0, 0, 0, 0, 0]).toArray
    have hbe := below_setRow (below_up hbe hw1) (Nat.le_trans hbe.size hg0) (Us [0, 0, 0, 0, 0]).toArray
    have hT := hT0.below hbe
    clear hw1 hb0
    generalize World.setRow _ gx (Us [0, 0, 0, 0, 0]).toArray = W2 at *
    refine wp_seq_k fun K hK => ?_
    refine wp_seq_k fun K2 hK2 => ?_
    refine reg_qF ?_
    refine b_el gv v2.len _ rfl rfl rfl (fun _ h => h.blk hbv) ?_
    simp only [Act.put, List.setIfInBounds_toArray, List.set_cons_zero, List.set_cons_succ]
    refine b_one rfl own_hash (fun w1 => hash_f v2 w1) rfl rfl ?_
    simp only [Act.put, List.setIfInBounds_toArray, List.set_cons_zero, List.set_cons_succ]
    refine b_build _ _ rfl rfl rfl built_h0 ?_
    simp only [Act.put, List.setIfInBounds_toArray, List.set_cons_zero, List.set_cons_succ]
    refine b_eq (By (enc (fof (le b % 57896044618658097711785492504343953926634992332820282019728792003956564819968)))).toArray (By (enc (fof 0))).toArray rfl rfl rfl rfl (by kernel_rfl) (fun w1 => eqd (fof (le b % 57896044618658097711785492504343953926634992332820282019728792003956564819968)) (fof 0) w1) ?_
    simp only [Act.put, List.setIfInBounds_toArray, List.set_cons_zero, List.set_cons_succ]
    refine wpB_nil ?_
    intro W1 hw1
    simp only [Exit.then]
    refine hK2 _ _ ?_
    clear hK2 K2
    have ha := hw1.blk ha
    have hb := hw1.blk hb
    have hbu := hw1.blk hbu
    have hbv := hw1.blk hbv
    have hbx := hw1.blk hbx
    have hT := hT.below hw1
    have hbe := below_up hbe hw1
    clear hw1
    by_cases hz : fof (le b % 57896044618658097711785492504343953926634992332820282019728792003956564819968) = fof 0
    · refine wp_cond (t := true) (congrArg Value.bool (decide_eq_true hz)) ?_
      rw [if_pos rfl]
      refine wp_seq_k fun K hK => ?_
      refine reg_qF ?_
      refine b_move rfl rfl ?_
      simp only [Act.put, List.setIfInBounds_toArray, List.set_cons_zero, List.set_cons_succ]
      refine b_not _ rfl rfl rfl ?_
      simp only [Act.put, List.setIfInBounds_toArray, List.set_cons_zero, List.set_cons_succ]
      refine b_move rfl rfl ?_
      simp only [Act.put, List.setIfInBounds_toArray, List.set_cons_zero, List.set_cons_succ]
      refine b_el gx eb_zero0.len _ rfl rfl rfl (fun _ h => h.blk hbx) ?_
      simp only [Act.put, List.setIfInBounds_toArray, List.set_cons_zero, List.set_cons_succ]
      refine b_one rfl own_hash (fun w1 => hash_f eb_zero0 w1) rfl rfl ?_
      simp only [Act.put, List.setIfInBounds_toArray, List.set_cons_zero, List.set_cons_succ]
      refine b_build _ _ rfl rfl rfl built_h0 ?_
      simp only [Act.put, List.setIfInBounds_toArray, List.set_cons_zero, List.set_cons_succ]
      refine b_eqh (enc (_)) (enc_len _) rfl rfl rfl rfl rfl ?_
      simp only [Act.put, List.setIfInBounds_toArray, List.set_cons_zero, List.set_cons_succ]
      refine b_pick rfl rfl rfl ?_
      simp only [Act.put, List.setIfInBounds_toArray, List.set_cons_zero, List.set_cons_succ]
      refine b_assign rfl rfl ?_
      refine wpB_nil ?_
      intro W1 hw1
      have hbe := below_up hbe hw1
      clear hw1
      simp only [Exit.then]
      refine hK _ _ ?_
      clear hK K
      go_wp2
      go_ret
      exact ⟨rfl, hbe⟩
    · refine wp_cond (t := false) (congrArg Value.bool (decide_eq_false hz)) ?_
      rw [if_neg (by decide)]
      refine wp_skip ?_
      simp only [Exit.then]
      refine hK _ _ ?_
      clear hK K
      refine wp_seq_k fun K hK => ?_
      refine wp_seq_k fun K2 hK2 => ?_
      refine reg_q (by kernel_rfl) (tail_ok (by kernel_rfl)) (fun _ _ d _ _ h => by cases d <;> exact h) ?_
      refine b_move rfl rfl ?_
      simp only [Act.put, List.setIfInBounds_toArray, List.set_cons_zero, List.set_cons_succ]
      refine b_by w.heap.size la _ rfl rfl rfl (fun _ h => h.blk ha) ?_
      simp only [Act.put, List.setIfInBounds_toArray, List.set_cons_zero, List.set_cons_succ]
      refine b_one rfl own_load (fun w1 => load_any a w1 la) rfl rfl ?_
      simp only [Act.put, List.setIfInBounds_toArray, List.set_cons_zero, List.set_cons_succ]
      refine b_by (w.heap.size + 1) lb _ rfl rfl rfl (fun _ h => h.blk hb) ?_
      simp only [Act.put, List.setIfInBounds_toArray, List.set_cons_zero, List.set_cons_succ]
      refine b_one rfl own_load (fun w1 => load_any b w1 lb) rfl rfl ?_
      simp only [Act.put, List.setIfInBounds_toArray, List.set_cons_zero, List.set_cons_succ]
      refine b_one rfl (fun _ _ => by go_simp) (fun w1 => square_f ((load_f la).mono (by omega)) ((load_f lb).mono (by omega)) w1) rfl rfl ?_
      simp only [Act.put, List.setIfInBounds_toArray, List.set_cons_zero, List.set_cons_succ]
      rw [sq_false hz hno]
      refine b_neqb _ rfl rfl rfl rfl ?_
      simp only [Act.put, List.setIfInBounds_toArray, List.set_cons_zero, List.set_cons_succ]
      refine wpB_nil ?_
      intro W1 hw1
      simp only [Exit.then]
      refine hK2 _ _ ?_
      clear hK2 K2
      have ha := hw1.blk ha
      have hb := hw1.blk hb
      have hbu := hw1.blk hbu
      have hbv := hw1.blk hbv
      have hbx := hw1.blk hbx
      have hT := hT.below hw1
      have hbe := below_up hbe hw1
      clear hw1
      refine wp_cond (t := false) (congrArg Value.bool (rfl)) ?_
      rw [if_neg (by decide)]
      refine wp_skip ?_
      simp only [Exit.then]
      refine hK _ _ ?_
      clear hK K
      refine wp_seq_k fun K hK => ?_
      refine wp_seq_k fun K2 hK2 => ?_
      refine reg_qF ?_
      refine b_move rfl rfl ?_
      simp only [Act.put, List.setIfInBounds_toArray, List.set_cons_zero, List.set_cons_succ]
      refine b_not _ rfl rfl rfl ?_
      simp only [Act.put, List.setIfInBounds_toArray, List.set_cons_zero, List.set_cons_succ]
      refine wpB_nil ?_
      intro W1 hw1
      simp only [Exit.then]
      refine hK2 _ _ ?_
      clear hK2 K2
      have ha := hw1.blk ha
      have hb := hw1.blk hb
      have hbu := hw1.blk hbu
      have hbv := hw1.blk hbv
      have hbx := hw1.blk hbx
      have hT := hT.below hw1
      have hbe := below_up hbe hw1
      clear hw1
      refine wp_cond (t := true) (congrArg Value.bool (rfl)) ?_
      rw [if_pos rfl]
      refine wp_seq_k fun K hK => ?_
      refine reg_qF ?_
      refine b_el gx eb_zero0.len _ rfl rfl rfl (fun _ h => h.blk hbx) ?_
      simp only [Act.put, List.setIfInBounds_toArray, List.set_cons_zero, List.set_cons_succ]
      refine b_one rfl own_hash (fun w1 => hash_f eb_zero0 w1) rfl rfl ?_
      simp only [Act.put, List.setIfInBounds_toArray, List.set_cons_zero, List.set_cons_succ]
      refine b_build _ _ rfl rfl rfl built_h0 ?_
      simp only [Act.put, List.setIfInBounds_toArray, List.set_cons_zero, List.set_cons_succ]
      refine b_eqh (enc (_)) (enc_len _) rfl rfl rfl rfl rfl ?_
      simp only [Act.put, List.setIfInBounds_toArray, List.set_cons_zero, List.set_cons_succ]
      refine b_assign rfl rfl ?_
      refine wpB_nil ?_
      intro W1 hw1
      have hbe := below_up hbe hw1
      clear hw1
      simp only [Exit.then]
      refine hK _ _ ?_
      clear hK K
      go_wp2
      go_ret
      exact ⟨rfl, hbe⟩
  -- end roots

theorem fieldRoots_types : ∀ t ∈ Tryd.f8.params.toList, Tryd.prog.readableRec t = true ∧ t < Tryd.prog.types.size := by
  have h : Tryd.f8.params.toList.all (fun t => Tryd.prog.readableRec t && decide (t < Tryd.prog.types.size)) = true := by kernel_rfl
  intro t ht
  have := List.all_eq_true.1 h t ht
  simpa using this

set_option maxRecDepth 100000 in
theorem fieldRoots_lifted (os : Os) (started : os.Started) (H : Type) (enc : TypeId × Value → H) :
    ReturnsInHanded {} Tryd.checked os 8 .any (fun w args => (Rows.fieldRootsSpec.pre enc Tryd.prog Tryd.f8 [] false w args ∧ laidMetH Tryd.prog laid1 w) ∧ sizedMet enc Tryd.prog Tryd.f8 (OpenSpec.ofChange Rows.fieldRootsSpec) false w args)
      (Rows.fieldRootsSpec.post enc Tryd.prog Tryd.f8 false true false false) := by
  refine returnsInHanded_of_change_and (C := Tryd.checked) (X := fun w _ => laidMetH Tryd.prog laid1 w) (fun _ _ _ hh h => h.of_heap hh) own started (by kernel_rfl) Tryd.func8
    (ChangeSpec.witness_shaped (enc := enc) (C := Tryd.checked) (os := os) (X := fun w _ => laidMetH Tryd.prog laid1 w) false (World.doorLaid Tryd.prog 400 os) #[.agg (By (List.replicate 32 0)).toArray, .agg (By (List.replicate 32 0)).toArray] 8 rfl (World.shaped_of_RefB (by kernel_rfl) (by kernel_rfl)) (by kernel_rfl) (by kernel_rfl) (by kernel_rfl) (door_met os _)) ?_
  intro W base args ds gs before hval0 hW _ _ hL _
  have hval : ∀ (j : Nat) t v, Tryd.f8.params[j]? = some t → args[j]? = some v → Value.okWide Tryd.prog W .any base t v := hval0
  have hW' : DataW.Whole enc Tryd.prog Tryd.f8.params.toList Rows.fieldRootsSpec.vars false W args.toList ds gs before := hW
  obtain ⟨p, q, hA0, hV, rfl, hfz, hnd⟩ := hW
  have hA : DataW.TrodAll enc Tryd.prog W 0 (fun _ => true) true Tryd.f8.params.toList args.toList ds p := hA0
  rw [Tryd.params8] at hA hval
  obtain ⟨v0, v1, d0, d1, p0, p1, rfl, rfl, rfl, h0, h1⟩ := trodAll_two hA
  obtain ⟨rfl, rfl⟩ := trodVars_none hV
  obtain ⟨a, la, rfl⟩ := open_hash (hval 0 22 v0 rfl rfl) h0
  obtain ⟨b, lb, rfl⟩ := open_hash (hval 1 22 v1 rfl rfl) h1
  clear hA0 hval0
  refine (fieldRoots_walk la lb W (of_laid hL)).mono fun e W' ⟨he, hb⟩ => ?_
  exact ⟨_, he, law_post (by kernel_rfl) rfl fieldRoots_types hW' rfl hb⟩

theorem fieldRoots_holds : Rows.FieldRootsSaid :=
  OpenClaim.holds_of_wide 8 Tryd.f8 rfl rfl rfl rfl rfl rfl rfl ⟨rfl, rfl, rfl, rfl, rfl⟩ rfl rfl rfl rfl rfl (by kernel_rfl) Tryd.func8 (by kernel_rfl)
    (of_decide_eq_true (by kernel_rfl)) (by unfold Func.isWrapper; first | (rw [if_pos (by decide +kernel)]; kernel_rfl) | (rw [if_neg (by decide +kernel)]; exact ⟨rfl, rfl⟩))
    (fun os started H enc _ => fieldRoots_lifted os started H enc)

theorem fieldRoots_card_holds : Rows.FieldRootsCardSaid :=
  Claim7.holds_tied_plain_at .later [] [.data] true Rows.fieldRootsCard.stood.harness false
    fieldRoots_holds (fun _ h => by cases h) (by kernel_rfl) (fun _ h => by cases h) fieldRoots_row_tie rfl ⟨rfl, rfl⟩ (by kernel_rfl) rfl
    (fun f fn hf hfn => by
      obtain rfl : f = 8 := Option.some.inj ((show Tryd.prog.funcNamed "witan/witanlaw03.FieldRoots" = some 8 by kernel_rfl).symm.trans hf) |>.symm
      obtain rfl : fn = Tryd.f8 := (Option.some.inj (Tryd.func8.symm.trans hfn)).symm
      exact ⟨by kernel_rfl, fun j t ht => by
        have hm := Array.mem_of_getElem? ht
        have hall : (Tryd.f8.params.toList.all fun u => !Tryd.prog.wantsStandIn u) = true := by kernel_rfl
        have h2 := List.all_eq_true.1 hall t (Array.mem_toList_iff.2 hm)
        show Tryd.prog.wantsStandIn t = false
        simpa using h2⟩)
    (by kernel_rfl)
#print axioms fieldRoots_card_holds
end Go.Proofs.YtchhkejgdcmicaaDoor
