/-
  THE FIELD'S NUMBERS: squared, ones, eighth, Inv.
-/
import Derived.Test.YtchhkejgdcmicaaDoorElMul
import Derived.Test.YtchhkejgdcmicaaDoorElSteps
import Derived.Test.YtchhkejgdcmicaaDoorCalls
namespace Go.Proofs.YtchhkejgdcmicaaDoor
open Go.RowKit Go.IntWalk Nums

theorem own_squared : Own 37 := fun _ _ => by go_simp
theorem own_ones : Own 38 := fun _ _ => by go_simp
theorem own_eighth : Own 41 := fun _ _ => by go_simp

theorem elmul_p {a b : List Nat} {x : F} {d e : Nat} (ha : EB a (fpow x d)) (hb : EB b (fpow x e)) (w : World) :
    Calls Tryd.prog 20 #[.agg (Us a).toArray, .agg (Us b).toArray] w fun e' w' => ∃ r, EB r (fpow x (d + e)) ∧ e' = .returned (.agg (Us r).toArray) ∧ Below w.heap.size w w' := by
  rw [fpow_add]
  exact elmul_f ha hb w

set_option maxRecDepth 100000 in
set_option maxHeartbeats 1000000 in
theorem squared_f {a : List Nat} {x : F} (ha : EB a x) (n : Nat) (hn : n < 300) (w : World) :
    Calls Tryd.prog 37 #[.agg (Us a).toArray, .int .i64 n] w fun e w' => ∃ r, EB r (fpow x (2 ^ n)) ∧ e = .returned (.agg (Us r).toArray) ∧ Below w.heap.size w w' := by
  have hs : ∀ k, fpow x (2 ^ (k + 1)) = fpow x (2 ^ k) * fpow x (2 ^ k) := fun k => by rw [← fpow_add, Nat.pow_succ]; congr 1; omega
  have HS := Lib.hid hs
  clear hs
  go_enter Tryd.func37, Tryd.ntmps37
  go_wp2
  go_loopw [6] (fun i wr => ∃ k : Nat, k ≤ n ∧ i = .int .i64 k ∧ ∃ r, EB r (fpow x (2 ^ k)) ∧ Blk wr w.heap.size 27 (Us r).toArray ∧ Blk wr (w.heap.size + 1) 27 z5 ∧ Below w.heap.size w wr) (fun i _ => n - (intOf i).toNat)
  case atStart =>
    refine ⟨0, by omega, rfl, a, ?_, heap_alloc2_old w _ _, heap_alloc2_new w _ _, ((Below.refl _ _).alloc (Nat.le_refl _) _).alloc (by simp) _⟩
    rw [Nat.pow_zero, fpow_one]
    exact ha
  case round =>
    obtain ⟨k, hk, rfl, r, hr, h0, h1, hbel⟩ := hrel
    by_cases hlt : k < n
    · have HM := fun w1 => Lib.hid (elmul_f hr hr w1)
      rw [← HS.out k] at HM
      have hzr := len_us hr.len
      have HK := Lib.hid (And.intro h0 (And.intro h1 hbel))
      have q0 : (k : Int) < (n : Int) := by omega
      clear h1 hbel
      go_wp2_with (refine wpList_load_row rfl 27 _ rfl w.heap.size rfl 27 (Us r).toArray (0, 0) _ h0 Tryd.underlying27 rfl (size_el _ hzr) ?_)
      refine (HM _).out.mono ?_
      rintro e w2 ⟨r1, hr1, rfl, hw2⟩
      have hz1 := len_us hr1.len
      obtain ⟨h0, h1, hbel⟩ := HK.out
      have k0 := h0.below hw2 h0.lt
      have k1 := h1.below hw2 h1.lt
      have kb := hbel.trans (hw2.mono hbel.size)
      have HR := Lib.hid (show Blk (w2.setRow w.heap.size (Us r1).toArray) w.heap.size 27 (Us r1).toArray ∧ Blk (w2.setRow w.heap.size (Us r1).toArray) (w.heap.size + 1) 27 z5 ∧ Below w.heap.size w (w2.setRow w.heap.size (Us r1).toArray) from
        ⟨k0.row _, k1.rowFar (by omega) _, below_setRow kb (Nat.le_refl _) _⟩)
      clear HM HK h0 h1 hbel k1 kb hw2
      go_wp2_with (refine wpList_store_row rfl 27 _ _ rfl w.heap.size rfl (Us r1).toArray rfl 27 _ k0 (size_el _ hz1) (by rw [hz1, hzr]) (Us_one _) ?_)
      go_roundw
      case rel => exact ⟨k + 1, by omega, by go_num, r1, hr1, HR.out⟩
      case measure => simp [intOf]; omega
    · obtain rfl : k = n := by omega
      have hzr := len_us hr.len
      go_wp2_with (first
        | (refine wpList_load_row rfl 27 _ rfl w.heap.size rfl 27 (Us r).toArray (0, 0) _ h0 Tryd.underlying27 rfl (size_el _ hzr) ?_)
        | (refine wpList_store_row rfl 27 _ _ rfl (w.heap.size + 1) rfl (Us r).toArray rfl 27 _ h1 (size_el _ hzr) (by rw [hzr]; rfl) (Us_one _) ?_))
      refine bodyPost_ret (results_cell_row rfl _ _ (w.heap.size + 1) 27 (Us r).toArray (0, 0) _ rfl (h1.row _) Tryd.underlying27 rfl (size_el _ hzr)) rfl ⟨r, hr, rfl, ?_⟩
      exact below_setRow hbel (by omega) _

theorem squared_p {a : List Nat} {x : F} {d : Nat} (ha : EB a (fpow x d)) (n : Nat) (hn : n < 300) (w : World) :
    Calls Tryd.prog 37 #[.agg (Us a).toArray, .int .i64 n] w fun e w' => ∃ r, EB r (fpow x (d * 2 ^ n)) ∧ e = .returned (.agg (Us r).toArray) ∧ Below w.heap.size w w' := by
  rw [fpow_mul]
  exact squared_f ha n hn w

theorem ones_end {r : List Nat} {x : F} (h : EB r (fpow x ((1267650600228229401496703205375 * 2 ^ 100 + 1267650600228229401496703205375) * 2 ^ 50 + 1125899906842623))) : EB r (fpow x (2 ^ 250 - 1)) := by
  rw [show (2 : Nat) ^ 250 - 1 = ((1267650600228229401496703205375 * 2 ^ 100 + 1267650600228229401496703205375) * 2 ^ 50 + 1125899906842623) from by decide]
  exact h
theorem eighth_end {r : List Nat} {x : F} (h : EB r (fpow (fpow x (2 ^ 250 - 1)) (2 ^ 2) * x)) : EB r (fpow x (2 ^ 252 - 3)) := by
  rw [show (2 : Nat) ^ 252 - 3 = (2 ^ 250 - 1) * 2 ^ 2 + 1 from by decide, fpow_succ, fpow_mul]
  exact h

set_option maxRecDepth 100000 in
set_option maxHeartbeats 1000000 in
theorem ones_f {a : List Nat} {x : F} (hA1 : EB a x) (w : World) :
    Calls Tryd.prog 38 #[.agg (Us a).toArray] w fun e w' => ∃ r, EB r (fpow x (2 ^ 250 - 1)) ∧ e = .returned (.agg (Us r).toArray) ∧ Below w.heap.size w w' := by
  have hA : EB a (fpow x 1) := by rw [fpow_one]; exact hA1
  go_enter Tryd.func38, Tryd.ntmps38
  refine wp_seq_k fun K hK => ?_
  refine wp_region_lit ?_
  refine wpl_box (Us a).toArray rfl rfl rfl ?_
  refine wpl_alloc (zs := z5) rfl rfl (by kernel_rfl) ?_
  refine wpl_nil ?_
  go_simp
  refine hK _ _ ?_
  clear hK K
  refine wp_at (fun W => Blk W w.heap.size 27 (Us a).toArray ∧ Blk W (w.heap.size + 1) 27 z5 ∧ Below w.heap.size w W)
    ⟨heap_alloc2_old w _ _, heap_alloc2_new w _ _, ((Below.refl _ _).alloc (Nat.le_refl _) _).alloc (by simp) _⟩ ?_
  rintro W ⟨ha, ho, hbe⟩
  -- walk ones
  refine wp_seq_k fun K hK => ?_
  refine reg_var 4 3 27 (.tmp 14) z5 rfl rfl rfl rfl rfl rfl rfl (by kernel_rfl) (tail_ok (by kernel_rfl)) (by kernel_rfl) (fun _ _ d _ _ h => by cases d <;> exact h) (exec_alloc rfl (by kernel_rfl)) ?_
  simp only [List.take_succ_cons, List.take_zero]
  refine b_el w.heap.size hA.len _ rfl rfl rfl (fun _ h => h.blk ha) ?_
  simp only [Act.put, List.setIfInBounds_toArray, List.set_cons_zero, List.set_cons_succ]
  refine b_fe rfl own_squared (fun w1 _ => squared_p hA 1 (by omega) w1) rfl rfl ?_
  intro r1 v1
  simp only [Act.put, List.setIfInBounds_toArray, List.set_cons_zero, List.set_cons_succ]
  refine b_el w.heap.size hA.len _ rfl rfl rfl (fun _ h => h.blk ha) ?_
  simp only [Act.put, List.setIfInBounds_toArray, List.set_cons_zero, List.set_cons_succ]
  refine b_fe rfl own_elmul (fun w1 _ => elmul_p v1 hA w1) rfl rfl ?_
  intro r2 v2
  simp only [Act.put, List.setIfInBounds_toArray, List.set_cons_zero, List.set_cons_succ]
  refine wpB_nil ⟨(Us r2).toArray, fun _ => rfl, fun _ => rfl, (len_us v2.len).symm, size_el _ (len_us v2.len), Us_one _, fun gtwo W1 hgtwo hw1 hbtwo => ?_⟩
  simp only [Exit.then, Act.put, List.setIfInBounds_toArray, List.set_cons_zero, List.set_cons_succ]
  refine hK _ _ ?_
  clear hK K
  have ha := hw1.blk ha
  have ho := hw1.blk ho
  have hbe := below_up hbe hw1
  clear hw1
  have v2 : EB r2 (fpow x 3) := v2
  refine wp_seq_k fun K hK => ?_
  refine reg_var 4 4 27 (.tmp 18) z5 rfl rfl rfl rfl rfl rfl rfl (by kernel_rfl) (tail_ok (by kernel_rfl)) (by kernel_rfl) (fun _ _ d _ _ h => by cases d <;> exact h) (exec_alloc rfl (by kernel_rfl)) ?_
  simp only [List.take_succ_cons, List.take_zero]
  refine b_el gtwo v2.len _ rfl rfl rfl (fun _ h => h.blk hbtwo) ?_
  simp only [Act.put, List.setIfInBounds_toArray, List.set_cons_zero, List.set_cons_succ]
  refine b_fe rfl own_squared (fun w1 _ => squared_p v2 2 (by omega) w1) rfl rfl ?_
  intro r3 v3
  simp only [Act.put, List.setIfInBounds_toArray, List.set_cons_zero, List.set_cons_succ]
  refine b_el gtwo v2.len _ rfl rfl rfl (fun _ h => h.blk hbtwo) ?_
  simp only [Act.put, List.setIfInBounds_toArray, List.set_cons_zero, List.set_cons_succ]
  refine b_fe rfl own_elmul (fun w1 _ => elmul_p v3 v2 w1) rfl rfl ?_
  intro r4 v4
  simp only [Act.put, List.setIfInBounds_toArray, List.set_cons_zero, List.set_cons_succ]
  refine wpB_nil ⟨(Us r4).toArray, fun _ => rfl, fun _ => rfl, (len_us v4.len).symm, size_el _ (len_us v4.len), Us_one _, fun gfour W1 hgfour hw1 hbfour => ?_⟩
  simp only [Exit.then, Act.put, List.setIfInBounds_toArray, List.set_cons_zero, List.set_cons_succ]
  refine hK _ _ ?_
  clear hK K
  have ha := hw1.blk ha
  have hbtwo := hw1.blk hbtwo
  have ho := hw1.blk ho
  have hbe := below_up hbe hw1
  clear hw1
  have v4 : EB r4 (fpow x 15) := v4
  refine wp_seq_k fun K hK => ?_
  refine reg_var 4 5 27 (.tmp 22) z5 rfl rfl rfl rfl rfl rfl rfl (by kernel_rfl) (tail_ok (by kernel_rfl)) (by kernel_rfl) (fun _ _ d _ _ h => by cases d <;> exact h) (exec_alloc rfl (by kernel_rfl)) ?_
  simp only [List.take_succ_cons, List.take_zero]
  refine b_el gfour v4.len _ rfl rfl rfl (fun _ h => h.blk hbfour) ?_
  simp only [Act.put, List.setIfInBounds_toArray, List.set_cons_zero, List.set_cons_succ]
  refine b_fe rfl own_squared (fun w1 _ => squared_p v4 1 (by omega) w1) rfl rfl ?_
  intro r5 v5
  simp only [Act.put, List.setIfInBounds_toArray, List.set_cons_zero, List.set_cons_succ]
  refine b_el w.heap.size hA.len _ rfl rfl rfl (fun _ h => h.blk ha) ?_
  simp only [Act.put, List.setIfInBounds_toArray, List.set_cons_zero, List.set_cons_succ]
  refine b_fe rfl own_elmul (fun w1 _ => elmul_p v5 hA w1) rfl rfl ?_
  intro r6 v6
  simp only [Act.put, List.setIfInBounds_toArray, List.set_cons_zero, List.set_cons_succ]
  refine wpB_nil ⟨(Us r6).toArray, fun _ => rfl, fun _ => rfl, (len_us v6.len).symm, size_el _ (len_us v6.len), Us_one _, fun gfive W1 hgfive hw1 hbfive => ?_⟩
  simp only [Exit.then, Act.put, List.setIfInBounds_toArray, List.set_cons_zero, List.set_cons_succ]
  refine hK _ _ ?_
  clear hK K
  have ha := hw1.blk ha
  have hbtwo := hw1.blk hbtwo
  have hbfour := hw1.blk hbfour
  have ho := hw1.blk ho
  have hbe := below_up hbe hw1
  clear hw1
  have v6 : EB r6 (fpow x 31) := v6
  refine wp_seq_k fun K hK => ?_
  refine reg_var 4 6 27 (.tmp 26) z5 rfl rfl rfl rfl rfl rfl rfl (by kernel_rfl) (tail_ok (by kernel_rfl)) (by kernel_rfl) (fun _ _ d _ _ h => by cases d <;> exact h) (exec_alloc rfl (by kernel_rfl)) ?_
  simp only [List.take_succ_cons, List.take_zero]
  refine b_el gfive v6.len _ rfl rfl rfl (fun _ h => h.blk hbfive) ?_
  simp only [Act.put, List.setIfInBounds_toArray, List.set_cons_zero, List.set_cons_succ]
  refine b_fe rfl own_squared (fun w1 _ => squared_p v6 5 (by omega) w1) rfl rfl ?_
  intro r7 v7
  simp only [Act.put, List.setIfInBounds_toArray, List.set_cons_zero, List.set_cons_succ]
  refine b_el gfive v6.len _ rfl rfl rfl (fun _ h => h.blk hbfive) ?_
  simp only [Act.put, List.setIfInBounds_toArray, List.set_cons_zero, List.set_cons_succ]
  refine b_fe rfl own_elmul (fun w1 _ => elmul_p v7 v6 w1) rfl rfl ?_
  intro r8 v8
  simp only [Act.put, List.setIfInBounds_toArray, List.set_cons_zero, List.set_cons_succ]
  refine wpB_nil ⟨(Us r8).toArray, fun _ => rfl, fun _ => rfl, (len_us v8.len).symm, size_el _ (len_us v8.len), Us_one _, fun gten W1 hgten hw1 hbten => ?_⟩
  simp only [Exit.then, Act.put, List.setIfInBounds_toArray, List.set_cons_zero, List.set_cons_succ]
  refine hK _ _ ?_
  clear hK K
  have ha := hw1.blk ha
  have hbtwo := hw1.blk hbtwo
  have hbfour := hw1.blk hbfour
  have hbfive := hw1.blk hbfive
  have ho := hw1.blk ho
  have hbe := below_up hbe hw1
  clear hw1
  have v8 : EB r8 (fpow x 1023) := v8
  refine wp_seq_k fun K hK => ?_
  refine reg_var 4 7 27 (.tmp 30) z5 rfl rfl rfl rfl rfl rfl rfl (by kernel_rfl) (tail_ok (by kernel_rfl)) (by kernel_rfl) (fun _ _ d _ _ h => by cases d <;> exact h) (exec_alloc rfl (by kernel_rfl)) ?_
  simp only [List.take_succ_cons, List.take_zero]
  refine b_el gten v8.len _ rfl rfl rfl (fun _ h => h.blk hbten) ?_
  simp only [Act.put, List.setIfInBounds_toArray, List.set_cons_zero, List.set_cons_succ]
  refine b_fe rfl own_squared (fun w1 _ => squared_p v8 10 (by omega) w1) rfl rfl ?_
  intro r9 v9
  simp only [Act.put, List.setIfInBounds_toArray, List.set_cons_zero, List.set_cons_succ]
  refine b_el gten v8.len _ rfl rfl rfl (fun _ h => h.blk hbten) ?_
  simp only [Act.put, List.setIfInBounds_toArray, List.set_cons_zero, List.set_cons_succ]
  refine b_fe rfl own_elmul (fun w1 _ => elmul_p v9 v8 w1) rfl rfl ?_
  intro r10 v10
  simp only [Act.put, List.setIfInBounds_toArray, List.set_cons_zero, List.set_cons_succ]
  refine wpB_nil ⟨(Us r10).toArray, fun _ => rfl, fun _ => rfl, (len_us v10.len).symm, size_el _ (len_us v10.len), Us_one _, fun gtwenty W1 hgtwenty hw1 hbtwenty => ?_⟩
  simp only [Exit.then, Act.put, List.setIfInBounds_toArray, List.set_cons_zero, List.set_cons_succ]
  refine hK _ _ ?_
  clear hK K
  have ha := hw1.blk ha
  have hbtwo := hw1.blk hbtwo
  have hbfour := hw1.blk hbfour
  have hbfive := hw1.blk hbfive
  have hbten := hw1.blk hbten
  have ho := hw1.blk ho
  have hbe := below_up hbe hw1
  clear hw1
  have v10 : EB r10 (fpow x 1048575) := v10
  refine wp_seq_k fun K hK => ?_
  refine reg_var 4 8 27 (.tmp 34) z5 rfl rfl rfl rfl rfl rfl rfl (by kernel_rfl) (tail_ok (by kernel_rfl)) (by kernel_rfl) (fun _ _ d _ _ h => by cases d <;> exact h) (exec_alloc rfl (by kernel_rfl)) ?_
  simp only [List.take_succ_cons, List.take_zero]
  refine b_el gtwenty v10.len _ rfl rfl rfl (fun _ h => h.blk hbtwenty) ?_
  simp only [Act.put, List.setIfInBounds_toArray, List.set_cons_zero, List.set_cons_succ]
  refine b_fe rfl own_squared (fun w1 _ => squared_p v10 20 (by omega) w1) rfl rfl ?_
  intro r11 v11
  simp only [Act.put, List.setIfInBounds_toArray, List.set_cons_zero, List.set_cons_succ]
  refine b_el gtwenty v10.len _ rfl rfl rfl (fun _ h => h.blk hbtwenty) ?_
  simp only [Act.put, List.setIfInBounds_toArray, List.set_cons_zero, List.set_cons_succ]
  refine b_fe rfl own_elmul (fun w1 _ => elmul_p v11 v10 w1) rfl rfl ?_
  intro r12 v12
  simp only [Act.put, List.setIfInBounds_toArray, List.set_cons_zero, List.set_cons_succ]
  refine wpB_nil ⟨(Us r12).toArray, fun _ => rfl, fun _ => rfl, (len_us v12.len).symm, size_el _ (len_us v12.len), Us_one _, fun gforty W1 hgforty hw1 hbforty => ?_⟩
  simp only [Exit.then, Act.put, List.setIfInBounds_toArray, List.set_cons_zero, List.set_cons_succ]
  refine hK _ _ ?_
  clear hK K
  have ha := hw1.blk ha
  have hbtwo := hw1.blk hbtwo
  have hbfour := hw1.blk hbfour
  have hbfive := hw1.blk hbfive
  have hbten := hw1.blk hbten
  have hbtwenty := hw1.blk hbtwenty
  have ho := hw1.blk ho
  have hbe := below_up hbe hw1
  clear hw1
  have v12 : EB r12 (fpow x 1099511627775) := v12
  refine wp_seq_k fun K hK => ?_
  refine reg_var 4 9 27 (.tmp 38) z5 rfl rfl rfl rfl rfl rfl rfl (by kernel_rfl) (tail_ok (by kernel_rfl)) (by kernel_rfl) (fun _ _ d _ _ h => by cases d <;> exact h) (exec_alloc rfl (by kernel_rfl)) ?_
  simp only [List.take_succ_cons, List.take_zero]
  refine b_el gforty v12.len _ rfl rfl rfl (fun _ h => h.blk hbforty) ?_
  simp only [Act.put, List.setIfInBounds_toArray, List.set_cons_zero, List.set_cons_succ]
  refine b_fe rfl own_squared (fun w1 _ => squared_p v12 10 (by omega) w1) rfl rfl ?_
  intro r13 v13
  simp only [Act.put, List.setIfInBounds_toArray, List.set_cons_zero, List.set_cons_succ]
  refine b_el gten v8.len _ rfl rfl rfl (fun _ h => h.blk hbten) ?_
  simp only [Act.put, List.setIfInBounds_toArray, List.set_cons_zero, List.set_cons_succ]
  refine b_fe rfl own_elmul (fun w1 _ => elmul_p v13 v8 w1) rfl rfl ?_
  intro r14 v14
  simp only [Act.put, List.setIfInBounds_toArray, List.set_cons_zero, List.set_cons_succ]
  refine wpB_nil ⟨(Us r14).toArray, fun _ => rfl, fun _ => rfl, (len_us v14.len).symm, size_el _ (len_us v14.len), Us_one _, fun gfifty W1 hgfifty hw1 hbfifty => ?_⟩
  simp only [Exit.then, Act.put, List.setIfInBounds_toArray, List.set_cons_zero, List.set_cons_succ]
  refine hK _ _ ?_
  clear hK K
  have ha := hw1.blk ha
  have hbtwo := hw1.blk hbtwo
  have hbfour := hw1.blk hbfour
  have hbfive := hw1.blk hbfive
  have hbten := hw1.blk hbten
  have hbtwenty := hw1.blk hbtwenty
  have hbforty := hw1.blk hbforty
  have ho := hw1.blk ho
  have hbe := below_up hbe hw1
  clear hw1
  have v14 : EB r14 (fpow x 1125899906842623) := v14
  refine wp_seq_k fun K hK => ?_
  refine reg_var 4 10 27 (.tmp 42) z5 rfl rfl rfl rfl rfl rfl rfl (by kernel_rfl) (tail_ok (by kernel_rfl)) (by kernel_rfl) (fun _ _ d _ _ h => by cases d <;> exact h) (exec_alloc rfl (by kernel_rfl)) ?_
  simp only [List.take_succ_cons, List.take_zero]
  refine b_el gfifty v14.len _ rfl rfl rfl (fun _ h => h.blk hbfifty) ?_
  simp only [Act.put, List.setIfInBounds_toArray, List.set_cons_zero, List.set_cons_succ]
  refine b_fe rfl own_squared (fun w1 _ => squared_p v14 50 (by omega) w1) rfl rfl ?_
  intro r15 v15
  simp only [Act.put, List.setIfInBounds_toArray, List.set_cons_zero, List.set_cons_succ]
  refine b_el gfifty v14.len _ rfl rfl rfl (fun _ h => h.blk hbfifty) ?_
  simp only [Act.put, List.setIfInBounds_toArray, List.set_cons_zero, List.set_cons_succ]
  refine b_fe rfl own_elmul (fun w1 _ => elmul_p v15 v14 w1) rfl rfl ?_
  intro r16 v16
  simp only [Act.put, List.setIfInBounds_toArray, List.set_cons_zero, List.set_cons_succ]
  refine wpB_nil ⟨(Us r16).toArray, fun _ => rfl, fun _ => rfl, (len_us v16.len).symm, size_el _ (len_us v16.len), Us_one _, fun ghundred W1 hghundred hw1 hbhundred => ?_⟩
  simp only [Exit.then, Act.put, List.setIfInBounds_toArray, List.set_cons_zero, List.set_cons_succ]
  refine hK _ _ ?_
  clear hK K
  have ha := hw1.blk ha
  have hbtwo := hw1.blk hbtwo
  have hbfour := hw1.blk hbfour
  have hbfive := hw1.blk hbfive
  have hbten := hw1.blk hbten
  have hbtwenty := hw1.blk hbtwenty
  have hbforty := hw1.blk hbforty
  have hbfifty := hw1.blk hbfifty
  have ho := hw1.blk ho
  have hbe := below_up hbe hw1
  clear hw1
  have v16 : EB r16 (fpow x 1267650600228229401496703205375) := v16
  refine wp_seq_k fun K hK => ?_
  refine reg_set 7 (.tmp 2) 27 (.tmp 49) rfl rfl rfl rfl (by kernel_rfl) (tail_ok (by kernel_rfl)) (fun _ _ d _ _ h => by cases d <;> exact h) ?_
  simp only [List.take_succ_cons, List.take_zero]
  refine b_el ghundred v16.len _ rfl rfl rfl (fun _ h => h.blk hbhundred) ?_
  simp only [Act.put, List.setIfInBounds_toArray, List.set_cons_zero, List.set_cons_succ]
  refine b_fe rfl own_squared (fun w1 _ => squared_p v16 100 (by omega) w1) rfl rfl ?_
  intro r17 v17
  simp only [Act.put, List.setIfInBounds_toArray, List.set_cons_zero, List.set_cons_succ]
  refine b_el ghundred v16.len _ rfl rfl rfl (fun _ h => h.blk hbhundred) ?_
  simp only [Act.put, List.setIfInBounds_toArray, List.set_cons_zero, List.set_cons_succ]
  refine b_fe rfl own_elmul (fun w1 _ => elmul_p v17 v16 w1) rfl rfl ?_
  intro r18 v18
  simp only [Act.put, List.setIfInBounds_toArray, List.set_cons_zero, List.set_cons_succ]
  refine b_fe rfl own_squared (fun w1 _ => squared_p v18 50 (by omega) w1) rfl rfl ?_
  intro r19 v19
  simp only [Act.put, List.setIfInBounds_toArray, List.set_cons_zero, List.set_cons_succ]
  refine b_el gfifty v14.len _ rfl rfl rfl (fun _ h => h.blk hbfifty) ?_
  simp only [Act.put, List.setIfInBounds_toArray, List.set_cons_zero, List.set_cons_succ]
  refine b_fe rfl own_elmul (fun w1 _ => elmul_p v19 v14 w1) rfl rfl ?_
  intro r20 v20
  simp only [Act.put, List.setIfInBounds_toArray, List.set_cons_zero, List.set_cons_succ]
  refine wpB_nil ⟨(w.heap.size + 1), _, _, rfl, rfl, ho, (len_us v20.len).symm, size_el _ (len_us v20.len), Us_one _, fun W1 hw1 => ?_⟩
  simp only [Exit.then]
  refine hK _ _ ?_
  clear hK K
  have ho := hw1.blk ho
  have hbe := below_up hbe hw1
  refine wp_ret ?_
  refine bodyPost_ret (results_cell_row rfl _ _ (w.heap.size + 1) 27 (Us r20).toArray (0, 0) _ rfl (ho.row _) Tryd.underlying27 rfl (size_el _ (len_us v20.len))) rfl ⟨r20, ones_end v20, rfl, ?_⟩
  exact below_setRow hbe (by omega) _
  -- end ones

set_option maxRecDepth 100000 in
set_option maxHeartbeats 1000000 in
theorem eighth_f {a : List Nat} {x : F} (hA : EB a x) (w : World) :
    Calls Tryd.prog 41 #[.agg (Us a).toArray] w fun e w' => ∃ r, EB r (fpow x (2 ^ 252 - 3)) ∧ e = .returned (.agg (Us r).toArray) ∧ Below w.heap.size w w' := by
  go_enter Tryd.func41, Tryd.ntmps41
  refine wp_seq_k fun K hK => ?_
  refine wp_region_lit ?_
  refine wpl_box (Us a).toArray rfl rfl rfl ?_
  refine wpl_alloc (zs := z5) rfl rfl (by kernel_rfl) ?_
  refine wpl_nil ?_
  go_simp
  refine hK _ _ ?_
  clear hK K
  refine wp_at (fun W => Blk W w.heap.size 27 (Us a).toArray ∧ Blk W (w.heap.size + 1) 27 z5 ∧ Below w.heap.size w W)
    ⟨heap_alloc2_old w _ _, heap_alloc2_new w _ _, ((Below.refl _ _).alloc (Nat.le_refl _) _).alloc (by simp) _⟩ ?_
  rintro W ⟨ha, ho, hbe⟩
  -- walk eighth
  refine wp_seq_k fun K hK => ?_
  refine reg_set 5 (.tmp 2) 27 (.tmp 7) rfl rfl rfl rfl (by kernel_rfl) (tail_ok (by kernel_rfl)) (fun _ _ d _ _ h => by cases d <;> exact h) ?_
  simp only [List.take_succ_cons, List.take_zero]
  refine b_el w.heap.size hA.len _ rfl rfl rfl (fun _ h => h.blk ha) ?_
  simp only [Act.put, List.setIfInBounds_toArray, List.set_cons_zero, List.set_cons_succ]
  refine b_fe rfl own_ones (fun w1 _ => ones_f hA w1) rfl rfl ?_
  intro r1 v1
  simp only [Act.put, List.setIfInBounds_toArray, List.set_cons_zero, List.set_cons_succ]
  refine b_fe rfl own_squared (fun w1 _ => squared_f v1 2 (by omega) w1) rfl rfl ?_
  intro r2 v2
  simp only [Act.put, List.setIfInBounds_toArray, List.set_cons_zero, List.set_cons_succ]
  refine b_el w.heap.size hA.len _ rfl rfl rfl (fun _ h => h.blk ha) ?_
  simp only [Act.put, List.setIfInBounds_toArray, List.set_cons_zero, List.set_cons_succ]
  refine b_fe rfl own_elmul (fun w1 _ => elmul_f v2 hA w1) rfl rfl ?_
  intro r3 v3
  simp only [Act.put, List.setIfInBounds_toArray, List.set_cons_zero, List.set_cons_succ]
  refine wpB_nil ⟨(w.heap.size + 1), _, _, rfl, rfl, ho, (len_us v3.len).symm, size_el _ (len_us v3.len), Us_one _, fun W1 hw1 => ?_⟩
  simp only [Exit.then]
  refine hK _ _ ?_
  clear hK K
  have ho := hw1.blk ho
  have hbe := below_up hbe hw1
  refine wp_ret ?_
  refine bodyPost_ret (results_cell_row rfl _ _ (w.heap.size + 1) 27 (Us r3).toArray (0, 0) _ rfl (ho.row _) Tryd.underlying27 rfl (size_el _ (len_us v3.len))) rfl ⟨r3, eighth_end v3, rfl, ?_⟩
  exact below_setRow hbe (by omega) _
  -- end eighth

theorem inv_end {r : List Nat} {x : F} (h : EB r (fpow x ((2 ^ 250 - 1) * 2 ^ 5 + ((1 + 1) * 2 ^ 2 + (1 + 1) + 1)))) : EB r (finv x) := by
  unfold finv
  rw [show p - 2 = (2 ^ 250 - 1) * 2 ^ 5 + ((1 + 1) * 2 ^ 2 + (1 + 1) + 1) from by decide]
  exact h

set_option maxRecDepth 100000 in
set_option maxHeartbeats 1000000 in
theorem elinv_f {a : List Nat} {x : F} (hA1 : EB a x) (w : World) :
    Calls Tryd.prog 27 #[.agg (Us a).toArray] w fun e w' => ∃ r, EB r (finv x) ∧ e = .returned (.agg (Us r).toArray) ∧ Below w.heap.size w w' := by
  have hA : EB a (fpow x 1) := by rw [fpow_one]; exact hA1
  go_enter Tryd.func27, Tryd.ntmps27
  refine wp_seq_k fun K hK => ?_
  refine wp_region_lit ?_
  refine wpl_box (Us a).toArray rfl rfl rfl ?_
  refine wpl_alloc (zs := z5) rfl rfl (by kernel_rfl) ?_
  refine wpl_nil ?_
  go_simp
  refine hK _ _ ?_
  clear hK K
  refine wp_at (fun W => Blk W w.heap.size 27 (Us a).toArray ∧ Blk W (w.heap.size + 1) 27 z5 ∧ Below w.heap.size w W)
    ⟨heap_alloc2_old w _ _, heap_alloc2_new w _ _, ((Below.refl _ _).alloc (Nat.le_refl _) _).alloc (by simp) _⟩ ?_
  rintro W ⟨ha, ho, hbe⟩
  -- walk inv
  refine wp_seq_k fun K hK => ?_
  refine reg_varF 3 3 27 (.tmp 7) z5 rfl rfl rfl rfl rfl rfl rfl (exec_alloc rfl (by kernel_rfl)) ?_
  simp only [List.take_succ_cons, List.take_zero]
  refine b_el w.heap.size hA.len _ rfl rfl rfl (fun _ h => h.blk ha) ?_
  simp only [Act.put, List.setIfInBounds_toArray, List.set_cons_zero, List.set_cons_succ]
  refine b_el w.heap.size hA.len _ rfl rfl rfl (fun _ h => h.blk ha) ?_
  simp only [Act.put, List.setIfInBounds_toArray, List.set_cons_zero, List.set_cons_succ]
  refine b_fe rfl own_elmul (fun w1 _ => elmul_p hA hA w1) rfl rfl ?_
  intro r1 v1
  simp only [Act.put, List.setIfInBounds_toArray, List.set_cons_zero, List.set_cons_succ]
  refine wpB_nil ⟨(Us r1).toArray, fun _ => rfl, fun _ => rfl, (len_us v1.len).symm, size_el _ (len_us v1.len), Us_one _, fun gtwo W1 hgtwo hw1 hbtwo => ?_⟩
  simp only [Exit.then, Act.put, List.setIfInBounds_toArray, List.set_cons_zero, List.set_cons_succ]
  refine hK _ _ ?_
  clear hK K
  have ha := hw1.blk ha
  have ho := hw1.blk ho
  have hbe := below_up hbe hw1
  clear hw1
  refine wp_seq_k fun K hK => ?_
  refine reg_var 6 4 27 (.tmp 13) z5 rfl rfl rfl rfl rfl rfl rfl (by kernel_rfl) (tail_ok (by kernel_rfl)) (by kernel_rfl) (fun _ _ d _ _ h => by cases d <;> exact h) (exec_alloc rfl (by kernel_rfl)) ?_
  simp only [List.take_succ_cons, List.take_zero]
  refine b_el gtwo v1.len _ rfl rfl rfl (fun _ h => h.blk hbtwo) ?_
  simp only [Act.put, List.setIfInBounds_toArray, List.set_cons_zero, List.set_cons_succ]
  refine b_fe rfl own_squared (fun w1 _ => squared_p v1 2 (by omega) w1) rfl rfl ?_
  intro r2 v2
  simp only [Act.put, List.setIfInBounds_toArray, List.set_cons_zero, List.set_cons_succ]
  refine b_el gtwo v1.len _ rfl rfl rfl (fun _ h => h.blk hbtwo) ?_
  simp only [Act.put, List.setIfInBounds_toArray, List.set_cons_zero, List.set_cons_succ]
  refine b_fe rfl own_elmul (fun w1 _ => elmul_p v2 v1 w1) rfl rfl ?_
  intro r3 v3
  simp only [Act.put, List.setIfInBounds_toArray, List.set_cons_zero, List.set_cons_succ]
  refine b_el w.heap.size hA.len _ rfl rfl rfl (fun _ h => h.blk ha) ?_
  simp only [Act.put, List.setIfInBounds_toArray, List.set_cons_zero, List.set_cons_succ]
  refine b_fe rfl own_elmul (fun w1 _ => elmul_p v3 hA w1) rfl rfl ?_
  intro r4 v4
  simp only [Act.put, List.setIfInBounds_toArray, List.set_cons_zero, List.set_cons_succ]
  refine wpB_nil ⟨(Us r4).toArray, fun _ => rfl, fun _ => rfl, (len_us v4.len).symm, size_el _ (len_us v4.len), Us_one _, fun geleven W1 hgeleven hw1 hbeleven => ?_⟩
  simp only [Exit.then, Act.put, List.setIfInBounds_toArray, List.set_cons_zero, List.set_cons_succ]
  refine hK _ _ ?_
  clear hK K
  have ha := hw1.blk ha
  have hbtwo := hw1.blk hbtwo
  have ho := hw1.blk ho
  have hbe := below_up hbe hw1
  clear hw1
  refine wp_seq_k fun K hK => ?_
  refine reg_set 5 (.tmp 2) 27 (.tmp 18) rfl rfl rfl rfl (by kernel_rfl) (tail_ok (by kernel_rfl)) (fun _ _ d _ _ h => by cases d <;> exact h) ?_
  simp only [List.take_succ_cons, List.take_zero]
  refine b_el w.heap.size hA.len _ rfl rfl rfl (fun _ h => h.blk ha) ?_
  simp only [Act.put, List.setIfInBounds_toArray, List.set_cons_zero, List.set_cons_succ]
  refine b_fe rfl own_ones (fun w1 _ => ones_f hA1 w1) rfl rfl ?_
  intro r90 v90
  simp only [Act.put, List.setIfInBounds_toArray, List.set_cons_zero, List.set_cons_succ]
  refine b_fe rfl own_squared (fun w1 _ => squared_p v90 5 (by omega) w1) rfl rfl ?_
  intro r91 v91
  simp only [Act.put, List.setIfInBounds_toArray, List.set_cons_zero, List.set_cons_succ]
  refine b_el geleven v4.len _ rfl rfl rfl (fun _ h => h.blk hbeleven) ?_
  simp only [Act.put, List.setIfInBounds_toArray, List.set_cons_zero, List.set_cons_succ]
  refine b_fe rfl own_elmul (fun w1 _ => elmul_p v91 v4 w1) rfl rfl ?_
  intro r92 v92
  simp only [Act.put, List.setIfInBounds_toArray, List.set_cons_zero, List.set_cons_succ]
  refine wpB_nil ⟨(w.heap.size + 1), _, _, rfl, rfl, ho, (len_us v92.len).symm, size_el _ (len_us v92.len), Us_one _, fun W1 hw1 => ?_⟩
  simp only [Exit.then]
  refine hK _ _ ?_
  clear hK K
  have ho := hw1.blk ho
  have hbe := below_up hbe hw1
  refine wp_ret ?_
  refine bodyPost_ret (results_cell_row rfl _ _ (w.heap.size + 1) 27 (Us r92).toArray (0, 0) _ rfl (ho.row _) Tryd.underlying27 rfl (size_el _ (len_us v92.len))) rfl ⟨r92, inv_end v92, rfl, ?_⟩
  exact below_setRow hbe (by omega) _
  -- end inv
end Go.Proofs.YtchhkejgdcmicaaDoor
