/-
  PROVED: FieldNews answers true for every input: which bytes are numbers, that these are the same bytes again, and what small numbers are. No condition but the row's own: the table lies as the program's text lays it (the card ties it): the statement '..CardSaid' itself.
-/
import Derived.Test.YtchhkejgdcmicaaDoorLaw3
import Derived.Test.YtchhkejgdcmicaaDoorElFirst
namespace Go.Proofs.YtchhkejgdcmicaaDoor
open Go.RowKit Go.IntWalk Nums
open Go.ChangeShapes Go.WideShapes Go.ChangeAt

theorem eb_zero0 : EB [0, 0, 0, 0, 0] (fof 0) := by
  rw [fof_zero]
  exact eb_zero
theorem newV {b : List UInt8} (hl : b.length = 32) (w : World) :
    Calls Tryd.prog 23 #[.agg (By b).toArray] w fun e w' => ∃ v, e = .returned v ∧
      ((isGood b = true ∧ ∃ r, EB r (fof (le b % 57896044618658097711785492504343953926634992332820282019728792003956564819968)) ∧ v = .tuple #[.agg (Us r).toArray, .bool true]) ∨ (isGood b = false ∧ v = .tuple #[.agg (Us [0, 0, 0, 0, 0]).toArray, .bool false])) ∧ Below w.heap.size w w' := by
  refine (new_f hl w).mono ?_
  rintro e w' ⟨⟨h, r, hE, rfl⟩ | ⟨h, rfl⟩, hw⟩
  · exact ⟨_, rfl, .inl ⟨h, r, hE, rfl⟩, hw⟩
  · exact ⟨_, rfl, .inr ⟨h, rfl⟩, hw⟩
theorem good_is {b : List UInt8} (h : isGood b = true) : enc (fof (le b % 57896044618658097711785492504343953926634992332820282019728792003956564819968)) = b := by
  unfold isGood at h
  simp only [Bool.and_eq_true, decide_eq_true_eq] at h
  exact h.2

set_option maxRecDepth 100000 in
set_option maxHeartbeats 4000000 in
theorem fieldNews_walk {a : List UInt8} {b : Nat} (la : a.length = 32) (hb0 : b < 18446744073709551616) (w : World) (hT0 : Tw w) :
    Calls Tryd.prog 4 #[.agg (By a).toArray, .int .u64 b] w fun e w' => e = .returned (.bool true) ∧ Below w.heap.size w w' := by
  go_enter Tryd.func4, Tryd.ntmps4
  refine wp_seq_k fun K hK => ?_
  refine wp_region_lit ?_
  refine wpl_box (By a).toArray rfl rfl rfl ?_
  refine wpl_assign rfl rfl ?_
  refine wpl_nil ?_
  go_simp
  refine hK _ _ ?_
  clear hK K
  refine wp_at (fun W => Blk W (w.heap.size) 22 (By a).toArray ∧ Below w.heap.size w W)
    ⟨heap_alloc_new w _, (Below.refl _ _).alloc (Nat.le_refl _) _⟩ ?_
  rintro W ⟨ha, hbe⟩
  have hT := hT0.below hbe
  -- walk news
  refine wp_seq_k fun K hK => ?_
  refine wp_seq_k fun K2 hK2 => ?_
  refine reg_qF ?_
  refine b_oneC rfl own_first (fun w1 hw => first_f w1 (hT.below hw)) rfl rfl ?_
  simp only [Act.put, List.setIfInBounds_toArray, List.set_cons_zero, List.set_cons_succ]
  refine b_not _ rfl rfl rfl ?_
  simp only [Act.put, List.setIfInBounds_toArray, List.set_cons_zero, List.set_cons_succ]
  refine wpB_nil ?_
  intro W1 hw1
  simp only [Exit.then]
  refine hK2 _ _ ?_
  clear hK2 K2
  have ha := hw1.blk ha
  have hT := hT.below hw1
  have hbe := below_up hbe hw1
  clear hw1
  refine wp_cond (t := false) rfl ?_
  rw [if_neg (by decide)]
  refine wp_skip ?_
  simp only [Exit.then]
  refine hK _ _ ?_
  clear hK K
  refine wp_seq_k fun K hK => ?_
  refine reg_tailF 5 ?_
  simp only [List.take_succ_cons, List.take_zero, List.drop_succ_cons, List.drop_zero]
  refine b_by w.heap.size la _ rfl rfl rfl (fun _ h => h.blk ha) ?_
  simp only [Act.put, List.setIfInBounds_toArray, List.set_cons_zero, List.set_cons_succ]
  refine b_callV _ rfl own_new3 (fun w1 _ => newV la w1) rfl rfl ?_
  rintro _ (⟨hG, r, hE, rfl⟩ | ⟨hG, rfl⟩)
  · simp only [Act.put, List.setIfInBounds_toArray, List.set_cons_zero, List.set_cons_succ]
    refine b_move rfl rfl ?_
    simp only [Act.put, List.setIfInBounds_toArray, List.set_cons_zero, List.set_cons_succ]
    refine b_extract (.agg (Us r).toArray) rfl rfl rfl rfl ?_
    simp only [Act.put, List.setIfInBounds_toArray, List.set_cons_zero, List.set_cons_succ]
    refine b_extract (.bool true) rfl rfl rfl rfl ?_
    simp only [Act.put, List.setIfInBounds_toArray, List.set_cons_zero, List.set_cons_succ]
    refine wpB_nil ?_
    intro W0 hw0
    refine wpl_alloc (zs := z5) rfl rfl (by kernel_rfl) ?_
    simp only [Act.put, List.setIfInBounds_toArray, List.set_cons_zero, List.set_cons_succ]
    have hb0 := Blk.new W0 27 z5
    have hg0 := hw0.size
    have hw1 := hw0.alloc (Obj.cells z5 27)
    clear hw0
    generalize W0.alloc (Obj.cells z5 27) = W1 at *
    generalize W0.heap.size = gx at *
    refine wpList_store_row rfl 27 _ _ rfl gx rfl (Us r).toArray rfl 27 _ hb0 (size_el _ (len_us hE.len)) (len_us hE.len).symm (Us_one _) ?_
    refine wpl_assign rfl rfl ?_
    refine wpl_nil ?_
    simp only [Exit.then, Act.put, List.setIfInBounds_toArray, List.set_cons_zero, List.set_cons_succ]
    refine hK _ _ ?_
    clear hK K
    have ha := (hw1.blk ha).rowFar (Nat.ne_of_lt (Nat.lt_of_lt_of_le (ha).lt hg0)) (g' := gx) (Us r).toArray
    have hbx := hb0.row (Us r).toArray
    have hbe := below_setRow (below_up hbe hw1) (Nat.le_trans hbe.size hg0) (Us r).toArray
    have hT := hT0.below hbe
    clear hw1 hb0
    generalize World.setRow _ gx (Us r).toArray = W2 at *
    have hen := good_is hG
    refine wp_seq_k fun K hK => ?_
    refine wp_seq_k fun K2 hK2 => ?_
    refine reg_q (by kernel_rfl) (tail_ok (by kernel_rfl)) (fun _ _ d _ _ h => by cases d <;> exact h) ?_
    refine b_move rfl rfl ?_
    simp only [Act.put, List.setIfInBounds_toArray, List.set_cons_zero, List.set_cons_succ]
    refine b_by w.heap.size la _ rfl rfl rfl (fun _ h => h.blk ha) ?_
    simp only [Act.put, List.setIfInBounds_toArray, List.set_cons_zero, List.set_cons_succ]
    refine b_one rfl own_good (fun w1 => good_f a la w1) rfl rfl ?_
    simp only [Act.put, List.setIfInBounds_toArray, List.set_cons_zero, List.set_cons_succ]
    rw [hG]
    refine b_neqb _ rfl rfl rfl rfl ?_
    simp only [Act.put, List.setIfInBounds_toArray, List.set_cons_zero, List.set_cons_succ]
    refine b_move rfl rfl ?_
    simp only [Act.put, List.setIfInBounds_toArray, List.set_cons_zero, List.set_cons_succ]
    refine b_move rfl rfl ?_
    simp only [Act.put, List.setIfInBounds_toArray, List.set_cons_zero, List.set_cons_succ]
    refine b_move rfl rfl ?_
    simp only [Act.put, List.setIfInBounds_toArray, List.set_cons_zero, List.set_cons_succ]
    refine b_el gx hE.len _ rfl rfl rfl (fun _ h => h.blk hbx) ?_
    simp only [Act.put, List.setIfInBounds_toArray, List.set_cons_zero, List.set_cons_succ]
    refine b_one rfl own_hash (fun w1 => hash_f hE w1) rfl rfl ?_
    simp only [Act.put, List.setIfInBounds_toArray, List.set_cons_zero, List.set_cons_succ]
    rw [hen]
    refine b_by w.heap.size la _ rfl rfl rfl (fun _ h => h.blk ha) ?_
    simp only [Act.put, List.setIfInBounds_toArray, List.set_cons_zero, List.set_cons_succ]
    refine b_neq (q := true) (By a).toArray (By a).toArray rfl rfl rfl rfl (by kernel_rfl) (fun w1 => by rw [equal32 a a la la w1, decide_eq_true rfl]) ?_
    simp only [Act.put, List.setIfInBounds_toArray, List.set_cons_zero, List.set_cons_succ]
    refine b_pick rfl rfl rfl ?_
    simp only [Act.put, List.setIfInBounds_toArray, List.set_cons_zero, List.set_cons_succ]
    refine b_pickF rfl rfl rfl ?_
    simp only [Act.put, List.setIfInBounds_toArray, List.set_cons_zero, List.set_cons_succ]
    refine b_move rfl rfl ?_
    simp only [Act.put, List.setIfInBounds_toArray, List.set_cons_zero, List.set_cons_succ]
    refine b_move rfl rfl ?_
    simp only [Act.put, List.setIfInBounds_toArray, List.set_cons_zero, List.set_cons_succ]
    refine b_not _ rfl rfl rfl ?_
    simp only [Act.put, List.setIfInBounds_toArray, List.set_cons_zero, List.set_cons_succ]
    refine b_move rfl rfl ?_
    simp only [Act.put, List.setIfInBounds_toArray, List.set_cons_zero, List.set_cons_succ]
    refine b_skip rfl ?_
    simp only [Act.put, List.setIfInBounds_toArray, List.set_cons_zero, List.set_cons_succ]
    refine b_skip rfl ?_
    simp only [Act.put, List.setIfInBounds_toArray, List.set_cons_zero, List.set_cons_succ]
    refine b_skip rfl ?_
    simp only [Act.put, List.setIfInBounds_toArray, List.set_cons_zero, List.set_cons_succ]
    refine b_skip rfl ?_
    simp only [Act.put, List.setIfInBounds_toArray, List.set_cons_zero, List.set_cons_succ]
    refine b_pickF rfl rfl rfl ?_
    simp only [Act.put, List.setIfInBounds_toArray, List.set_cons_zero, List.set_cons_succ]
    refine b_pickF rfl rfl rfl ?_
    simp only [Act.put, List.setIfInBounds_toArray, List.set_cons_zero, List.set_cons_succ]
    refine wpB_nil ?_
    intro W1 hw1
    simp only [Exit.then]
    refine hK2 _ _ ?_
    clear hK2 K2
    have ha := hw1.blk ha
    have hbx := hw1.blk hbx
    have hT := hT.below hw1
    have hbe := below_up hbe hw1
    clear hw1
    refine wp_cond (t := false) (congrArg Value.bool (rfl)) ?_
    rw [if_neg (by decide)]
    refine wp_skip ?_
    simp only [Exit.then]
    refine hK _ _ ?_
    clear hK K
    refine wp_seq_k fun K hK => ?_
    refine reg_qF ?_
    refine b_move rfl rfl ?_
    simp only [Act.put, List.setIfInBounds_toArray, List.set_cons_zero, List.set_cons_succ]
    refine b_fe rfl own_small (fun w1 _ => small_f b (by omega) w1) rfl rfl ?_
    intro r1 v1
    simp only [Act.put, List.setIfInBounds_toArray, List.set_cons_zero, List.set_cons_succ]
    refine b_one rfl own_hash (fun w1 => hash_f v1 w1) rfl rfl ?_
    simp only [Act.put, List.setIfInBounds_toArray, List.set_cons_zero, List.set_cons_succ]
    refine b_move rfl rfl ?_
    simp only [Act.put, List.setIfInBounds_toArray, List.set_cons_zero, List.set_cons_succ]
    refine b_num rfl own_of (fun w1 => of_f b (by omega) w1) rfl rfl ?_
    intro r2 v2
    simp only [Act.put, List.setIfInBounds_toArray, List.set_cons_zero, List.set_cons_succ]
    refine b_one rfl own_pack (fun w1 => pack_f (v2.mono (by omega)) w1) rfl rfl ?_
    simp only [Act.put, List.setIfInBounds_toArray, List.set_cons_zero, List.set_cons_succ]
    refine b_eqh (enc (_)) (enc_len _) rfl rfl rfl rfl rfl ?_
    simp only [Act.put, List.setIfInBounds_toArray, List.set_cons_zero, List.set_cons_succ]
    refine b_assign rfl rfl ?_
    refine wpB_nil ?_
    intro W1 hw1
    have hbe := below_up hbe hw1
    clear hw1
    simp only [Exit.then]
    refine hK _ _ ?_
    clear hK K
    go_wp2
    go_ret
    exact ⟨rfl, hbe⟩
  · simp only [Act.put, List.setIfInBounds_toArray, List.set_cons_zero, List.set_cons_succ]
    refine b_move rfl rfl ?_
    simp only [Act.put, List.setIfInBounds_toArray, List.set_cons_zero, List.set_cons_succ]
    refine b_extract (.agg (Us [0, 0, 0, 0, 0]).toArray) rfl rfl rfl rfl ?_
    simp only [Act.put, List.setIfInBounds_toArray, List.set_cons_zero, List.set_cons_succ]
    refine b_extract (.bool false) rfl rfl rfl rfl ?_
    simp only [Act.put, List.setIfInBounds_toArray, List.set_cons_zero, List.set_cons_succ]
    refine wpB_nil ?_
    intro W0 hw0
    refine wpl_alloc (zs := z5) rfl rfl (by kernel_rfl) ?_
    simp only [Act.put, List.setIfInBounds_toArray, List.set_cons_zero, List.set_cons_succ]
    have hb0 := Blk.new W0 27 z5
    have hg0 := hw0.size
    have hw1 := hw0.alloc (Obj.cells z5 27)
    clear hw0
    generalize W0.alloc (Obj.cells z5 27) = W1 at *
    generalize W0.heap.size = gx at *
    refine wpList_store_row rfl 27 _ _ rfl gx rfl (Us [0, 0, 0, 0, 0]).toArray rfl 27 _ hb0 (size_el _ (len_us eb_zero0.len)) (len_us eb_zero0.len).symm (Us_one _) ?_
    refine wpl_assign rfl rfl ?_
    refine wpl_nil ?_
    simp only [Exit.then, Act.put, List.setIfInBounds_toArray, List.set_cons_zero, List.set_cons_succ]
    refine hK _ _ ?_
    clear hK K
    have ha := (hw1.blk ha).rowFar (Nat.ne_of_lt (Nat.lt_of_lt_of_le (ha).lt hg0)) (g' := gx) (Us [0, 0, 0, 0, 0]).toArray
    have hbx := hb0.row (Us [0, 0, 0, 0, 0]).toArray
    have hbe := below_setRow (below_up hbe hw1) (Nat.le_trans hbe.size hg0) (Us [0, 0, 0, 0, 0]).toArray
    have hT := hT0.below hbe
    clear hw1 hb0
    generalize World.setRow _ gx (Us [0, 0, 0, 0, 0]).toArray = W2 at *
    refine wp_seq_k fun K hK => ?_
    refine wp_seq_k fun K2 hK2 => ?_
    refine reg_q (by kernel_rfl) (tail_ok (by kernel_rfl)) (fun _ _ d _ _ h => by cases d <;> exact h) ?_
    refine b_move rfl rfl ?_
    simp only [Act.put, List.setIfInBounds_toArray, List.set_cons_zero, List.set_cons_succ]
    refine b_by w.heap.size la _ rfl rfl rfl (fun _ h => h.blk ha) ?_
    simp only [Act.put, List.setIfInBounds_toArray, List.set_cons_zero, List.set_cons_succ]
    refine b_one rfl own_good (fun w1 => good_f a la w1) rfl rfl ?_
    simp only [Act.put, List.setIfInBounds_toArray, List.set_cons_zero, List.set_cons_succ]
    rw [hG]
    refine b_neqb _ rfl rfl rfl rfl ?_
    simp only [Act.put, List.setIfInBounds_toArray, List.set_cons_zero, List.set_cons_succ]
    refine b_move rfl rfl ?_
    simp only [Act.put, List.setIfInBounds_toArray, List.set_cons_zero, List.set_cons_succ]
    refine b_move rfl rfl ?_
    simp only [Act.put, List.setIfInBounds_toArray, List.set_cons_zero, List.set_cons_succ]
    refine b_move rfl rfl ?_
    simp only [Act.put, List.setIfInBounds_toArray, List.set_cons_zero, List.set_cons_succ]
    refine b_skip rfl ?_
    simp only [Act.put, List.setIfInBounds_toArray, List.set_cons_zero, List.set_cons_succ]
    refine b_skip rfl ?_
    simp only [Act.put, List.setIfInBounds_toArray, List.set_cons_zero, List.set_cons_succ]
    refine b_skip rfl ?_
    simp only [Act.put, List.setIfInBounds_toArray, List.set_cons_zero, List.set_cons_succ]
    refine b_skip rfl ?_
    simp only [Act.put, List.setIfInBounds_toArray, List.set_cons_zero, List.set_cons_succ]
    refine b_pickF rfl rfl rfl ?_
    simp only [Act.put, List.setIfInBounds_toArray, List.set_cons_zero, List.set_cons_succ]
    refine b_pickF rfl rfl rfl ?_
    simp only [Act.put, List.setIfInBounds_toArray, List.set_cons_zero, List.set_cons_succ]
    refine b_move rfl rfl ?_
    simp only [Act.put, List.setIfInBounds_toArray, List.set_cons_zero, List.set_cons_succ]
    refine b_move rfl rfl ?_
    simp only [Act.put, List.setIfInBounds_toArray, List.set_cons_zero, List.set_cons_succ]
    refine b_not _ rfl rfl rfl ?_
    simp only [Act.put, List.setIfInBounds_toArray, List.set_cons_zero, List.set_cons_succ]
    refine b_move rfl rfl ?_
    simp only [Act.put, List.setIfInBounds_toArray, List.set_cons_zero, List.set_cons_succ]
    refine b_el gx eb_zero0.len _ rfl rfl rfl (fun _ h => h.blk hbx) ?_
    simp only [Act.put, List.setIfInBounds_toArray, List.set_cons_zero, List.set_cons_succ]
    refine b_one rfl own_hash (fun w1 => hash_f eb_zero0 w1) rfl rfl ?_
    simp only [Act.put, List.setIfInBounds_toArray, List.set_cons_zero, List.set_cons_succ]
    refine b_build _ _ rfl rfl rfl built_h0 ?_
    simp only [Act.put, List.setIfInBounds_toArray, List.set_cons_zero, List.set_cons_succ]
    refine b_neq (q := true) (By (enc (fof 0))).toArray (By (enc (fof 0))).toArray rfl rfl rfl rfl (by kernel_rfl) (fun w1 => by rw [eqd (fof 0) (fof 0) w1, decide_eq_true rfl]) ?_
    simp only [Act.put, List.setIfInBounds_toArray, List.set_cons_zero, List.set_cons_succ]
    refine b_pick rfl rfl rfl ?_
    simp only [Act.put, List.setIfInBounds_toArray, List.set_cons_zero, List.set_cons_succ]
    refine b_pickF rfl rfl rfl ?_
    simp only [Act.put, List.setIfInBounds_toArray, List.set_cons_zero, List.set_cons_succ]
    refine wpB_nil ?_
    intro W1 hw1
    simp only [Exit.then]
    refine hK2 _ _ ?_
    clear hK2 K2
    have ha := hw1.blk ha
    have hbx := hw1.blk hbx
    have hT := hT.below hw1
    have hbe := below_up hbe hw1
    clear hw1
    refine wp_cond (t := false) (congrArg Value.bool (rfl)) ?_
    rw [if_neg (by decide)]
    refine wp_skip ?_
    simp only [Exit.then]
    refine hK _ _ ?_
    clear hK K
    refine wp_seq_k fun K hK => ?_
    refine reg_qF ?_
    refine b_move rfl rfl ?_
    simp only [Act.put, List.setIfInBounds_toArray, List.set_cons_zero, List.set_cons_succ]
    refine b_fe rfl own_small (fun w1 _ => small_f b (by omega) w1) rfl rfl ?_
    intro r1 v1
    simp only [Act.put, List.setIfInBounds_toArray, List.set_cons_zero, List.set_cons_succ]
    refine b_one rfl own_hash (fun w1 => hash_f v1 w1) rfl rfl ?_
    simp only [Act.put, List.setIfInBounds_toArray, List.set_cons_zero, List.set_cons_succ]
    refine b_move rfl rfl ?_
    simp only [Act.put, List.setIfInBounds_toArray, List.set_cons_zero, List.set_cons_succ]
    refine b_num rfl own_of (fun w1 => of_f b (by omega) w1) rfl rfl ?_
    intro r2 v2
    simp only [Act.put, List.setIfInBounds_toArray, List.set_cons_zero, List.set_cons_succ]
    refine b_one rfl own_pack (fun w1 => pack_f (v2.mono (by omega)) w1) rfl rfl ?_
    simp only [Act.put, List.setIfInBounds_toArray, List.set_cons_zero, List.set_cons_succ]
    refine b_eqh (enc (_)) (enc_len _) rfl rfl rfl rfl rfl ?_
    simp only [Act.put, List.setIfInBounds_toArray, List.set_cons_zero, List.set_cons_succ]
    refine b_assign rfl rfl ?_
    refine wpB_nil ?_
    intro W1 hw1
    have hbe := below_up hbe hw1
    clear hw1
    simp only [Exit.then]
    refine hK _ _ ?_
    clear hK K
    go_wp2
    go_ret
    exact ⟨rfl, hbe⟩
  -- end news

theorem fieldNews_types : ∀ t ∈ Tryd.f4.params.toList, Tryd.prog.readableRec t = true ∧ t < Tryd.prog.types.size := by
  have h : Tryd.f4.params.toList.all (fun t => Tryd.prog.readableRec t && decide (t < Tryd.prog.types.size)) = true := by kernel_rfl
  intro t ht
  have := List.all_eq_true.1 h t ht
  simpa using this

set_option maxRecDepth 100000 in
theorem fieldNews_lifted (os : Os) (started : os.Started) (H : Type) (enc : TypeId × Value → H) :
    ReturnsInHanded {} Tryd.checked os 4 .any (fun w args => (Rows.fieldNewsSpec.pre enc Tryd.prog Tryd.f4 [] false w args ∧ laidMetH Tryd.prog laid1 w) ∧ sizedMet enc Tryd.prog Tryd.f4 (OpenSpec.ofChange Rows.fieldNewsSpec) false w args)
      (Rows.fieldNewsSpec.post enc Tryd.prog Tryd.f4 false true false false) := by
  refine returnsInHanded_of_change_and (C := Tryd.checked) (X := fun w _ => laidMetH Tryd.prog laid1 w) (fun _ _ _ hh h => h.of_heap hh) own started (by kernel_rfl) Tryd.func4
    (ChangeSpec.witness_shaped (enc := enc) (C := Tryd.checked) (os := os) (X := fun w _ => laidMetH Tryd.prog laid1 w) false (World.doorLaid Tryd.prog 400 os) #[.agg (By (List.replicate 32 0)).toArray, .int .u64 0] 8 rfl (World.shaped_of_RefB (by kernel_rfl) (by kernel_rfl)) (by kernel_rfl) (by kernel_rfl) (by kernel_rfl) (door_met os _)) ?_
  intro W base args ds gs before hval0 hW _ _ hL _
  have hval : ∀ (j : Nat) t v, Tryd.f4.params[j]? = some t → args[j]? = some v → Value.okWide Tryd.prog W .any base t v := hval0
  have hW' : DataW.Whole enc Tryd.prog Tryd.f4.params.toList Rows.fieldNewsSpec.vars false W args.toList ds gs before := hW
  obtain ⟨p, q, hA0, hV, rfl, hfz, hnd⟩ := hW
  have hA : DataW.TrodAll enc Tryd.prog W 0 (fun _ => true) true Tryd.f4.params.toList args.toList ds p := hA0
  rw [Tryd.params4] at hA hval
  obtain ⟨v0, v1, d0, d1, p0, p1, rfl, rfl, rfl, h0, h1⟩ := trodAll_two hA
  obtain ⟨rfl, rfl⟩ := trodVars_none hV
  obtain ⟨a, la, rfl⟩ := open_hash (hval 0 22 v0 rfl rfl) h0
  obtain ⟨n1, rfl, rfl, rfl, w1⟩ := open_int Tryd.underlying24 (hval 1 24 v1 rfl rfl) h1
  have b1 := bounds_u64 w1
  obtain ⟨b, rfl⟩ := Int.eq_ofNat_of_zero_le b1.1
  clear hA0 hval0
  refine (fieldNews_walk la (by omega) W (of_laid hL)).mono fun e W' ⟨he, hb⟩ => ?_
  exact ⟨_, he, law_post (by kernel_rfl) rfl fieldNews_types hW' rfl hb⟩

theorem fieldNews_holds : Rows.FieldNewsSaid :=
  OpenClaim.holds_of_wide 4 Tryd.f4 rfl rfl rfl rfl rfl rfl rfl ⟨rfl, rfl, rfl, rfl, rfl⟩ rfl rfl rfl rfl rfl (by kernel_rfl) Tryd.func4 (by kernel_rfl)
    (of_decide_eq_true (by kernel_rfl)) (by unfold Func.isWrapper; first | (rw [if_pos (by decide +kernel)]; kernel_rfl) | (rw [if_neg (by decide +kernel)]; exact ⟨rfl, rfl⟩))
    (fun os started H enc _ => fieldNews_lifted os started H enc)

theorem fieldNews_card_holds : Rows.FieldNewsCardSaid :=
  Claim7.holds_tied_plain_at .later [] [.data] true Rows.fieldNewsCard.stood.harness false
    fieldNews_holds (fun _ h => by cases h) (by kernel_rfl) (fun _ h => by cases h) fieldNews_row_tie rfl ⟨rfl, rfl⟩ (by kernel_rfl) rfl
    (fun f fn hf hfn => by
      obtain rfl : f = 4 := Option.some.inj ((show Tryd.prog.funcNamed "witan/witanlaw03.FieldNews" = some 4 by kernel_rfl).symm.trans hf) |>.symm
      obtain rfl : fn = Tryd.f4 := (Option.some.inj (Tryd.func4.symm.trans hfn)).symm
      exact ⟨by kernel_rfl, fun j t ht => by
        have hm := Array.mem_of_getElem? ht
        have hall : (Tryd.f4.params.toList.all fun u => !Tryd.prog.wantsStandIn u) = true := by kernel_rfl
        have h2 := List.all_eq_true.1 hall t (Array.mem_toList_iff.2 hm)
        show Tryd.prog.wantsStandIn t = false
        simpa using h2⟩)
    (by kernel_rfl)
#print axioms fieldNews_card_holds
end Go.Proofs.YtchhkejgdcmicaaDoor
