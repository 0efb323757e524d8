/-
  PROVED: FieldOps answers true for every input: sums, differences, products and parities of any two numbers are those of the document. No condition but the row's own: the table lies as the program's text lays it (the card ties it): the statement '..CardSaid' itself.
-/
import Derived.Test.YtchhkejgdcmicaaDoorLaw3
import Derived.Test.YtchhkejgdcmicaaDoorElFirst
namespace Go.Proofs.YtchhkejgdcmicaaDoor
open Go.RowKit Go.IntWalk Nums
open Go.ChangeShapes Go.WideShapes Go.ChangeAt

set_option maxRecDepth 100000 in
set_option maxHeartbeats 4000000 in
theorem fieldOps_walk {a : List UInt8} {b : List UInt8} (la : a.length = 32) (lb : b.length = 32) (w : World) (hT0 : Tw w) :
    Calls Tryd.prog 3 #[.agg (By a).toArray, .agg (By b).toArray] w fun e w' => e = .returned (.bool true) ∧ Below w.heap.size w w' := by
  go_enter Tryd.func3, Tryd.ntmps3
  refine wp_seq_k fun K hK => ?_
  refine wp_region_lit ?_
  refine wpl_box (By a).toArray rfl rfl rfl ?_
  refine wpl_box (By b).toArray rfl rfl rfl ?_
  refine wpl_assign rfl rfl ?_
  refine wpl_nil ?_
  go_simp
  refine hK _ _ ?_
  clear hK K
  refine wp_at (fun W => Blk W (w.heap.size) 22 (By a).toArray ∧ Blk W (w.heap.size + 1) 22 (By b).toArray ∧ Below w.heap.size w W)
    ⟨heap_alloc2_old w _ _, heap_alloc2_new w _ _, ((Below.refl _ _).alloc (Nat.le_refl _) _).alloc (by simp) _⟩ ?_
  rintro W ⟨ha, hb, hbe⟩
  have hT := hT0.below hbe
  -- walk ops
  refine wp_seq_k fun K hK => ?_
  refine wp_seq_k fun K2 hK2 => ?_
  refine reg_qF ?_
  refine b_oneC rfl own_first (fun w1 hw => first_f w1 (hT.below hw)) rfl rfl ?_
  simp only [Act.put, List.setIfInBounds_toArray, List.set_cons_zero, List.set_cons_succ]
  refine b_not _ rfl rfl rfl ?_
  simp only [Act.put, List.setIfInBounds_toArray, List.set_cons_zero, List.set_cons_succ]
  refine wpB_nil ?_
  intro W1 hw1
  simp only [Exit.then]
  refine hK2 _ _ ?_
  clear hK2 K2
  have ha := hw1.blk ha
  have hb := hw1.blk hb
  have hT := hT.below hw1
  have hbe := below_up hbe hw1
  clear hw1
  refine wp_cond (t := false) rfl ?_
  rw [if_neg (by decide)]
  refine wp_skip ?_
  simp only [Exit.then]
  refine hK _ _ ?_
  clear hK K
  refine wp_seq_k fun K hK => ?_
  refine reg_var2 4 5 6 27 27 (.tmp 12) (.tmp 14) z5 z5 rfl rfl rfl rfl rfl rfl rfl rfl rfl rfl rfl rfl rfl (by decide) (by kernel_rfl) (tail_ok (by kernel_rfl)) (by kernel_rfl) (by kernel_rfl) (by kernel_rfl) (fun _ _ d _ _ h => by cases d <;> exact h) (exec_alloc rfl (by kernel_rfl)) (exec_alloc rfl (by kernel_rfl)) ?_
  simp only [List.take_succ_cons, List.take_zero]
  refine b_by w.heap.size la _ rfl rfl rfl (fun _ h => h.blk ha) ?_
  simp only [Act.put, List.setIfInBounds_toArray, List.set_cons_zero, List.set_cons_succ]
  refine b_fe rfl own_in (fun w1 _ => in_f la w1) rfl rfl ?_
  intro r1 v1
  simp only [Act.put, List.setIfInBounds_toArray, List.set_cons_zero, List.set_cons_succ]
  refine b_by (w.heap.size + 1) lb _ rfl rfl rfl (fun _ h => h.blk hb) ?_
  simp only [Act.put, List.setIfInBounds_toArray, List.set_cons_zero, List.set_cons_succ]
  refine b_fe rfl own_in (fun w1 _ => in_f lb w1) rfl rfl ?_
  intro r2 v2
  simp only [Act.put, List.setIfInBounds_toArray, List.set_cons_zero, List.set_cons_succ]
  refine wpB_nil ⟨(Us r1).toArray, (Us r2).toArray, fun _ _ => rfl, fun _ _ => rfl, fun _ _ => rfl, fun _ _ => rfl, (len_us v1.len).symm, (len_us v2.len).symm, size_el _ (len_us v1.len), size_el _ (len_us v2.len), Us_one _, Us_one _, fun gx gy W1 hgx hgy hw1 hbx hby => ?_⟩
  simp only [Exit.then, Act.put, List.setIfInBounds_toArray, List.set_cons_zero, List.set_cons_succ]
  refine hK _ _ ?_
  clear hK K
  have ha := hw1.blk ha
  have hb := hw1.blk hb
  have hT := hT.below hw1
  have hbe := below_up hbe hw1
  clear hw1
  refine wp_seq_k fun K hK => ?_
  refine reg_var2 4 7 8 30 30 (.tmp 16) (.tmp 18) z16 z16 rfl rfl rfl rfl rfl rfl rfl rfl rfl rfl rfl rfl rfl (by decide) (by kernel_rfl) (tail_ok (by kernel_rfl)) (by kernel_rfl) (by kernel_rfl) (by kernel_rfl) (fun _ _ d _ _ h => by cases d <;> exact h) (exec_alloc rfl (by kernel_rfl)) (exec_alloc rfl (by kernel_rfl)) ?_
  simp only [List.take_succ_cons, List.take_zero]
  refine b_by w.heap.size la _ rfl rfl rfl (fun _ h => h.blk ha) ?_
  simp only [Act.put, List.setIfInBounds_toArray, List.set_cons_zero, List.set_cons_succ]
  refine b_one rfl own_load (fun w1 => load_any a w1 la) rfl rfl ?_
  simp only [Act.put, List.setIfInBounds_toArray, List.set_cons_zero, List.set_cons_succ]
  refine b_by (w.heap.size + 1) lb _ rfl rfl rfl (fun _ h => h.blk hb) ?_
  simp only [Act.put, List.setIfInBounds_toArray, List.set_cons_zero, List.set_cons_succ]
  refine b_one rfl own_load (fun w1 => load_any b w1 lb) rfl rfl ?_
  simp only [Act.put, List.setIfInBounds_toArray, List.set_cons_zero, List.set_cons_succ]
  refine wpB_nil ⟨(Is (low a)).toArray, (Is (low b)).toArray, fun _ _ => rfl, fun _ _ => rfl, fun _ _ => rfl, fun _ _ => rfl, (len_is (load_f la).len).symm, (len_is (load_f lb).len).symm, size_num _ (len_is (load_f la).len), size_num _ (len_is (load_f lb).len), Is_one _, Is_one _, fun gu gv W1 hgu hgv hw1 hbu hbv => ?_⟩
  simp only [Exit.then, Act.put, List.setIfInBounds_toArray, List.set_cons_zero, List.set_cons_succ]
  refine hK _ _ ?_
  clear hK K
  have ha := hw1.blk ha
  have hb := hw1.blk hb
  have hbx := hw1.blk hbx
  have hby := hw1.blk hby
  have hT := hT.below hw1
  have hbe := below_up hbe hw1
  clear hw1
  refine wp_seq_k fun K hK => ?_
  refine reg_q (by kernel_rfl) (tail_ok (by kernel_rfl)) (fun _ _ d _ _ h => by cases d <;> exact h) ?_
  refine b_el gx v1.len _ rfl rfl rfl (fun _ h => h.blk hbx) ?_
  simp only [Act.put, List.setIfInBounds_toArray, List.set_cons_zero, List.set_cons_succ]
  refine b_el gy v2.len _ rfl rfl rfl (fun _ h => h.blk hby) ?_
  simp only [Act.put, List.setIfInBounds_toArray, List.set_cons_zero, List.set_cons_succ]
  refine b_fe rfl own_eladd (fun w1 _ => eladd_f v1 v2 w1) rfl rfl ?_
  intro r3 v3
  simp only [Act.put, List.setIfInBounds_toArray, List.set_cons_zero, List.set_cons_succ]
  refine b_one rfl own_hash (fun w1 => hash_f v3 w1) rfl rfl ?_
  simp only [Act.put, List.setIfInBounds_toArray, List.set_cons_zero, List.set_cons_succ]
  refine b_ld gu 0 (load_f la).len _ rfl rfl rfl (fun _ h => (h.blk hbu).range) ?_
  simp only [Act.put, List.setIfInBounds_toArray, List.set_cons_zero, List.set_cons_succ]
  refine b_ld gv 0 (load_f lb).len _ rfl rfl rfl (fun _ h => (h.blk hbv).range) ?_
  simp only [Act.put, List.setIfInBounds_toArray, List.set_cons_zero, List.set_cons_succ]
  refine b_num rfl own_add (fun w1 => add_f (load_f la) (load_f lb) (by omega) (by omega) w1) rfl rfl ?_
  intro r4 v4
  simp only [Act.put, List.setIfInBounds_toArray, List.set_cons_zero, List.set_cons_succ]
  refine b_one rfl own_pack (fun w1 => pack_f (v4.mono (by omega)) w1) rfl rfl ?_
  simp only [Act.put, List.setIfInBounds_toArray, List.set_cons_zero, List.set_cons_succ]
  refine b_eqh (enc (_)) (enc_len _) rfl rfl rfl rfl rfl ?_
  simp only [Act.put, List.setIfInBounds_toArray, List.set_cons_zero, List.set_cons_succ]
  refine b_move rfl rfl ?_
  simp only [Act.put, List.setIfInBounds_toArray, List.set_cons_zero, List.set_cons_succ]
  refine b_el gx v1.len _ rfl rfl rfl (fun _ h => h.blk hbx) ?_
  simp only [Act.put, List.setIfInBounds_toArray, List.set_cons_zero, List.set_cons_succ]
  refine b_el gy v2.len _ rfl rfl rfl (fun _ h => h.blk hby) ?_
  simp only [Act.put, List.setIfInBounds_toArray, List.set_cons_zero, List.set_cons_succ]
  refine b_fe rfl own_elsub (fun w1 hw => elsub_f v1 v2 w1 (hT.below hw)) rfl rfl ?_
  intro r5 v5
  simp only [Act.put, List.setIfInBounds_toArray, List.set_cons_zero, List.set_cons_succ]
  refine b_one rfl own_hash (fun w1 => hash_f v5 w1) rfl rfl ?_
  simp only [Act.put, List.setIfInBounds_toArray, List.set_cons_zero, List.set_cons_succ]
  refine b_ld gu 0 (load_f la).len _ rfl rfl rfl (fun _ h => (h.blk hbu).range) ?_
  simp only [Act.put, List.setIfInBounds_toArray, List.set_cons_zero, List.set_cons_succ]
  refine b_ld gv 0 (load_f lb).len _ rfl rfl rfl (fun _ h => (h.blk hbv).range) ?_
  simp only [Act.put, List.setIfInBounds_toArray, List.set_cons_zero, List.set_cons_succ]
  refine b_num rfl own_sub (fun w1 => sub_f (load_f la) (load_f lb) (by omega) (by omega) w1) rfl rfl ?_
  intro r6 v6
  simp only [Act.put, List.setIfInBounds_toArray, List.set_cons_zero, List.set_cons_succ]
  refine b_one rfl own_pack (fun w1 => pack_f (v6.mono (by omega)) w1) rfl rfl ?_
  simp only [Act.put, List.setIfInBounds_toArray, List.set_cons_zero, List.set_cons_succ]
  refine b_eqh (enc (_)) (enc_len _) rfl rfl rfl rfl rfl ?_
  simp only [Act.put, List.setIfInBounds_toArray, List.set_cons_zero, List.set_cons_succ]
  refine b_pick rfl rfl rfl ?_
  simp only [Act.put, List.setIfInBounds_toArray, List.set_cons_zero, List.set_cons_succ]
  refine b_move rfl rfl ?_
  simp only [Act.put, List.setIfInBounds_toArray, List.set_cons_zero, List.set_cons_succ]
  refine b_el gx v1.len _ rfl rfl rfl (fun _ h => h.blk hbx) ?_
  simp only [Act.put, List.setIfInBounds_toArray, List.set_cons_zero, List.set_cons_succ]
  refine b_el gy v2.len _ rfl rfl rfl (fun _ h => h.blk hby) ?_
  simp only [Act.put, List.setIfInBounds_toArray, List.set_cons_zero, List.set_cons_succ]
  refine b_fe rfl own_elmul (fun w1 _ => elmul_f v1 v2 w1) rfl rfl ?_
  intro r7 v7
  simp only [Act.put, List.setIfInBounds_toArray, List.set_cons_zero, List.set_cons_succ]
  refine b_one rfl own_hash (fun w1 => hash_f v7 w1) rfl rfl ?_
  simp only [Act.put, List.setIfInBounds_toArray, List.set_cons_zero, List.set_cons_succ]
  refine b_ld gu 0 (load_f la).len _ rfl rfl rfl (fun _ h => (h.blk hbu).range) ?_
  simp only [Act.put, List.setIfInBounds_toArray, List.set_cons_zero, List.set_cons_succ]
  refine b_ld gv 0 (load_f lb).len _ rfl rfl rfl (fun _ h => (h.blk hbv).range) ?_
  simp only [Act.put, List.setIfInBounds_toArray, List.set_cons_zero, List.set_cons_succ]
  refine b_num rfl own_mul (fun w1 => mul_f ((load_f la).mono (by omega)) ((load_f lb).mono (by omega)) w1) rfl rfl ?_
  intro r8 v8
  simp only [Act.put, List.setIfInBounds_toArray, List.set_cons_zero, List.set_cons_succ]
  refine b_one rfl own_pack (fun w1 => pack_f (v8.mono (by omega)) w1) rfl rfl ?_
  simp only [Act.put, List.setIfInBounds_toArray, List.set_cons_zero, List.set_cons_succ]
  refine b_eqh (enc (_)) (enc_len _) rfl rfl rfl rfl rfl ?_
  simp only [Act.put, List.setIfInBounds_toArray, List.set_cons_zero, List.set_cons_succ]
  refine b_pick rfl rfl rfl ?_
  simp only [Act.put, List.setIfInBounds_toArray, List.set_cons_zero, List.set_cons_succ]
  refine b_move rfl rfl ?_
  simp only [Act.put, List.setIfInBounds_toArray, List.set_cons_zero, List.set_cons_succ]
  refine b_el gx v1.len _ rfl rfl rfl (fun _ h => h.blk hbx) ?_
  simp only [Act.put, List.setIfInBounds_toArray, List.set_cons_zero, List.set_cons_succ]
  refine b_one rfl own_odd (fun w1 => odd_f v1 w1) rfl rfl ?_
  simp only [Act.put, List.setIfInBounds_toArray, List.set_cons_zero, List.set_cons_succ]
  refine b_ld gu 0 (load_f la).len _ rfl rfl rfl (fun _ h => (h.blk hbu).range) ?_
  simp only [Act.put, List.setIfInBounds_toArray, List.set_cons_zero, List.set_cons_succ]
  refine b_one rfl own_pack (fun w1 => pack_f ((load_f la).mono (by omega)) w1) rfl rfl ?_
  simp only [Act.put, List.setIfInBounds_toArray, List.set_cons_zero, List.set_cons_succ]
  refine b_index (enc (fof (le a % 57896044618658097711785492504343953926634992332820282019728792003956564819968))) (by rw [enc_len]; omega) rfl rfl rfl ?_
  simp only [Act.put, List.setIfInBounds_toArray, List.set_cons_zero, List.set_cons_succ]
  refine b_rem2 _ ((enc (fof (le a % 57896044618658097711785492504343953926634992332820282019728792003956564819968)))[0]!).toNat_lt rfl rfl rfl ?_
  simp only [Act.put, List.setIfInBounds_toArray, List.set_cons_zero, List.set_cons_succ]
  rw [le_low (b := enc (fof (le a % 57896044618658097711785492504343953926634992332820282019728792003956564819968))) (by rw [enc_len]; omega), le_enc]
  refine b_is1 _ rfl rfl rfl ?_
  simp only [Act.put, List.setIfInBounds_toArray, List.set_cons_zero, List.set_cons_succ]
  refine b_eqb _ rfl rfl rfl rfl ?_
  simp only [Act.put, List.setIfInBounds_toArray, List.set_cons_zero, List.set_cons_succ]
  refine b_pick rfl rfl rfl ?_
  simp only [Act.put, List.setIfInBounds_toArray, List.set_cons_zero, List.set_cons_succ]
  refine b_assign rfl rfl ?_
  refine wpB_nil ?_
  intro W1 hw1
  have hbe := below_up hbe hw1
  clear hw1
  simp only [Exit.then]
  refine hK _ _ ?_
  clear hK K
  go_wp2
  go_ret
  exact ⟨rfl, hbe⟩
  -- end ops

theorem fieldOps_types : ∀ t ∈ Tryd.f3.params.toList, Tryd.prog.readableRec t = true ∧ t < Tryd.prog.types.size := by
  have h : Tryd.f3.params.toList.all (fun t => Tryd.prog.readableRec t && decide (t < Tryd.prog.types.size)) = true := by kernel_rfl
  intro t ht
  have := List.all_eq_true.1 h t ht
  simpa using this

set_option maxRecDepth 100000 in
theorem fieldOps_lifted (os : Os) (started : os.Started) (H : Type) (enc : TypeId × Value → H) :
    ReturnsInHanded {} Tryd.checked os 3 .any (fun w args => (Rows.fieldOpsSpec.pre enc Tryd.prog Tryd.f3 [] false w args ∧ laidMetH Tryd.prog laid1 w) ∧ sizedMet enc Tryd.prog Tryd.f3 (OpenSpec.ofChange Rows.fieldOpsSpec) false w args)
      (Rows.fieldOpsSpec.post enc Tryd.prog Tryd.f3 false true false false) := by
  refine returnsInHanded_of_change_and (C := Tryd.checked) (X := fun w _ => laidMetH Tryd.prog laid1 w) (fun _ _ _ hh h => h.of_heap hh) own started (by kernel_rfl) Tryd.func3
    (ChangeSpec.witness_shaped (enc := enc) (C := Tryd.checked) (os := os) (X := fun w _ => laidMetH Tryd.prog laid1 w) false (World.doorLaid Tryd.prog 400 os) #[.agg (By (List.replicate 32 0)).toArray, .agg (By (List.replicate 32 0)).toArray] 8 rfl (World.shaped_of_RefB (by kernel_rfl) (by kernel_rfl)) (by kernel_rfl) (by kernel_rfl) (by kernel_rfl) (door_met os _)) ?_
  intro W base args ds gs before hval0 hW _ _ hL _
  have hval : ∀ (j : Nat) t v, Tryd.f3.params[j]? = some t → args[j]? = some v → Value.okWide Tryd.prog W .any base t v := hval0
  have hW' : DataW.Whole enc Tryd.prog Tryd.f3.params.toList Rows.fieldOpsSpec.vars false W args.toList ds gs before := hW
  obtain ⟨p, q, hA0, hV, rfl, hfz, hnd⟩ := hW
  have hA : DataW.TrodAll enc Tryd.prog W 0 (fun _ => true) true Tryd.f3.params.toList args.toList ds p := hA0
  rw [Tryd.params3] at hA hval
  obtain ⟨v0, v1, d0, d1, p0, p1, rfl, rfl, rfl, h0, h1⟩ := trodAll_two hA
  obtain ⟨rfl, rfl⟩ := trodVars_none hV
  obtain ⟨a, la, rfl⟩ := open_hash (hval 0 22 v0 rfl rfl) h0
  obtain ⟨b, lb, rfl⟩ := open_hash (hval 1 22 v1 rfl rfl) h1
  clear hA0 hval0
  refine (fieldOps_walk la lb W (of_laid hL)).mono fun e W' ⟨he, hb⟩ => ?_
  exact ⟨_, he, law_post (by kernel_rfl) rfl fieldOps_types hW' rfl hb⟩

theorem fieldOps_holds : Rows.FieldOpsSaid :=
  OpenClaim.holds_of_wide 3 Tryd.f3 rfl rfl rfl rfl rfl rfl rfl ⟨rfl, rfl, rfl, rfl, rfl⟩ rfl rfl rfl rfl rfl (by kernel_rfl) Tryd.func3 (by kernel_rfl)
    (of_decide_eq_true (by kernel_rfl)) (by unfold Func.isWrapper; first | (rw [if_pos (by decide +kernel)]; kernel_rfl) | (rw [if_neg (by decide +kernel)]; exact ⟨rfl, rfl⟩))
    (fun os started H enc _ => fieldOps_lifted os started H enc)

theorem fieldOps_card_holds : Rows.FieldOpsCardSaid :=
  Claim7.holds_tied_plain_at .later [] [.data] true Rows.fieldOpsCard.stood.harness false
    fieldOps_holds (fun _ h => by cases h) (by kernel_rfl) (fun _ h => by cases h) fieldOps_row_tie rfl ⟨rfl, rfl⟩ (by kernel_rfl) rfl
    (fun f fn hf hfn => by
      obtain rfl : f = 3 := Option.some.inj ((show Tryd.prog.funcNamed "witan/witanlaw03.FieldOps" = some 3 by kernel_rfl).symm.trans hf) |>.symm
      obtain rfl : fn = Tryd.f3 := (Option.some.inj (Tryd.func3.symm.trans hfn)).symm
      exact ⟨by kernel_rfl, fun j t ht => by
        have hm := Array.mem_of_getElem? ht
        have hall : (Tryd.f3.params.toList.all fun u => !Tryd.prog.wantsStandIn u) = true := by kernel_rfl
        have h2 := List.all_eq_true.1 hall t (Array.mem_toList_iff.2 hm)
        show Tryd.prog.wantsStandIn t = false
        simpa using h2⟩)
    (by kernel_rfl)
#print axioms fieldOps_card_holds
end Go.Proofs.YtchhkejgdcmicaaDoor
