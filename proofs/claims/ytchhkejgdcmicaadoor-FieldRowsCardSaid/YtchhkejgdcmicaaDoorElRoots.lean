/-
  THE FIELD'S NUMBERS: Root: the even root of a quotient, where there is one.
-/
import Derived.Test.YtchhkejgdcmicaaDoorElRoot
import Derived.Test.YtchhkejgdcmicaaDoorElIs
namespace Go.Proofs.YtchhkejgdcmicaaDoor
open Go.RowKit Go.IntWalk Nums

theorem own_is : Own 40 := fun _ _ => by go_simp
theorem own_odd : Own 22 := fun _ _ => by go_simp
theorem own_inv3 : Own 27 := fun _ _ => by go_simp
theorem own_root3 : Own 29 := fun _ _ => by go_simp

theorem eb_zero : EB [0, 0, 0, 0, 0] 0 := EB.mk5 (by omega) (by omega) (by omega) (by omega) (by omega) fof_zero

/-- The program's root of -1. -/
def iml : List Nat := [1718705420411056, 234908883556509, 2233514472574048, 2117202627021982, 765476049583133]
def imf : F := fof (lv iml)
theorem eb_im : EB iml imf := EB.mk5 (by omega) (by omega) (by omega) (by omega) (by omega) rfl
theorem imf_sq : imf * imf = -1 := by
  unfold imf
  rw [← fof_mul]
  have : fof (lv iml * lv iml) = fof (p - 1) := fof_eq (by decide +kernel)
  rw [this, fof_sub (by decide), fof_one, show fof p = 0 from fof_eq (a := p) (b := 0) (by decide)]
  generalize (1 : F) = u
  grind only

/-- What the candidate's square comes to. -/
theorem cand3 (u v : F) (c : F) (hc : fpow (u * (v * v * v) * (v * v * v) * v) (2 ^ 252 - 3) = c) :
    u * (v * v * v) * c * (u * (v * v * v) * c) * v = u * fpow (u * (v * v * v) * (v * v * v) * v) pq := by
  have e : pq = (2 ^ 252 - 3) + (2 ^ 252 - 3) + 1 := by decide
  rw [e, fpow_succ, fpow_add, hc]
  generalize hs : u * (v * v * v) * (v * v * v) * v = s
  subst hs
  grind only

theorem quarter {u v y : F} (hu : u ≠ 0) (h : v * y * y = u) :
    fpow (u * (v * v * v) * (v * v * v) * v) pq = 1 ∨ fpow (u * (v * v * v) * (v * v * v) * v) pq = -1 := by
  have hs : u * (v * v * v) * (v * v * v) * v = (v * v * v * v * y) * (v * v * v * v * y) := by
    rw [← h]
    grind only
  have hne : v * v * v * v * y ≠ 0 := by
    intro h0
    apply hu
    rw [← h]
    by_cases hv : v = 0
    · rw [hv]
      grind only
    · have hvv := mul_ne prime_p (mul_ne prime_p (mul_ne prime_p hv hv) hv) hv
      rcases zero_or prime_p h0 with h1 | h1
      · exact absurd h1 hvv
      · rw [h1]
        grind only
  have h2 := euler_sq hne
  rw [← pq_two, fpow_mul] at h2
  rw [hs]
  generalize fpow (v * v * v * v * y * (v * v * v * v * y)) pq = t at *
  have h3 : t * t = 1 * 1 := by
    rw [show fpow t 2 = t * t from by rw [fpow_succ, fpow_one]] at h2
    rw [h2]
    grind only
  exact root_or prime_p h3

theorem root_none {u v X : F} (hX : u * (v * v * v) * fpow (u * (v * v * v) * (v * v * v) * v) (2 ^ 252 - 3) = X) (h1 : ¬ X * X * v = u) (h2 : ¬ X * imf * (X * imf) * v = u) (y : F) : v * y * y ≠ u := by
  intro h
  have hc := cand3 u v _ rfl
  rw [hX] at hc
  have hu : u ≠ 0 := by
    rintro rfl
    apply h1
    rw [hc]
    grind only
  rcases quarter hu h with h3 | h3
  · apply h1
    rw [hc, h3]
    grind only
  · apply h2
    rw [h3] at hc
    have hi := imf_sq
    generalize imf = i at *
    clear h h1 h2 hX h3 hu
    grind only

theorem root_even {u v X : F} (h : X * X * v = u) (ho : ¬ X.val % 2 = 1) : v * X * X = u ∧ X.val % 2 = 0 := by
  refine ⟨?_, by omega⟩
  rw [← h]
  grind only
theorem root_odd {u v X : F} (h : X * X * v = u) (ho : X.val % 2 = 1) : v * (0 - X) * (0 - X) = u ∧ (0 - X).val % 2 = 0 := by
  have hne : X ≠ 0 := by
    rintro rfl
    revert ho
    decide
  have e : 0 - X = -X := by grind only
  refine ⟨?_, ?_⟩
  · rw [← h]
    grind only
  · rw [e, neg_odd hne]
    omega

theorem Tw.row {w : World} (h : Tw w) {g : Nat} (hg : 0 < g) (cs : Array Value) : Tw (w.setRow g cs) where
  cell := fun i hi => by
    have hf : (w.setRow g cs).heap[0]? = w.heap[0]? := by
      rw [World.setRow]
      simp only [Array.getElem?_modify]
      rw [if_neg (by omega)]
    rw [World.cell?_of_block (w := w) (a := ⟨0, i, none⟩) hf]
    exact h.cell i hi
  lt := by rw [size_setRow]; exact h.lt

set_option maxRecDepth 100000 in
set_option maxHeartbeats 4000000 in
theorem elroot_f {a b : List Nat} {u v : F} (hA : EB a u) (hB : EB b v) (w : World) (hT0 : Tw w) :
    Calls Tryd.prog 29 #[.agg (Us a).toArray, .agg (Us b).toArray] w fun e w' =>
      ((∃ r x, EB r x ∧ v ≠ 0 ∧ (v * x * x = u ∧ x.val % 2 = 0) ∧ e = .returned (.tuple #[.agg (Us r).toArray, .bool true])) ∨ ((v = 0 ∨ ∀ x, v * x * x ≠ u) ∧ e = .returned (.tuple #[.agg z5, .bool false]))) ∧ Below w.heap.size w w' := by
  go_enter Tryd.func29, Tryd.ntmps29
  refine wp_seq_k fun K hK => ?_
  refine wp_region_lit ?_
  refine wpl_box (Us a).toArray rfl rfl rfl ?_
  refine wpl_box (Us b).toArray rfl rfl rfl ?_
  refine wpl_alloc (zs := z5) rfl rfl (by kernel_rfl) ?_
  refine wpl_assign rfl rfl ?_
  refine wpl_nil ?_
  go_simp
  refine hK _ _ ?_
  clear hK K
  refine wp_at (fun W => Blk W w.heap.size 27 (Us a).toArray ∧ Blk W (w.heap.size + 1) 27 (Us b).toArray ∧ Blk W (w.heap.size + 1 + 1) 27 z5 ∧ Below w.heap.size w W)
    ⟨blk3_0 w _ _ _ _, blk3_1 w _ _ _ _, blk3_2 w _ _ _ _, (((Below.refl _ _).alloc (Nat.le_refl _) _).alloc (by simp) _).alloc (by simp; omega) _⟩ ?_
  rintro W ⟨hu, hb, ho, hbe⟩
  have hT := hT0.below hbe
  -- walk root
  refine wp_seq_k fun K hK => ?_
  refine wp_seq_k fun K2 hK2 => ?_
  refine reg_qF ?_
  refine b_el (w.heap.size + 1) hB.len _ rfl rfl rfl (fun _ h => h.blk hb) ?_
  simp only [Act.put, List.setIfInBounds_toArray, List.set_cons_zero, List.set_cons_succ]
  refine b_build [] z5 rfl rfl rfl built_zero ?_
  simp only [Act.put, List.setIfInBounds_toArray, List.set_cons_zero, List.set_cons_succ]
  refine b_one rfl own_is (fun w1 => is_f hB eb_zero w1) rfl rfl ?_
  simp only [Act.put, List.setIfInBounds_toArray, List.set_cons_zero, List.set_cons_succ]
  refine wpB_nil ?_
  intro W1 hw1
  simp only [Exit.then]
  refine hK2 _ _ ?_
  clear hK2 K2
  have hu := hw1.blk hu
  have hb := hw1.blk hb
  have ho := hw1.blk ho
  have hT := hT.below hw1
  have hbe := below_up hbe hw1
  clear hw1
  by_cases hv : v = 0
  · refine wp_cond (t := true) (congrArg Value.bool (decide_eq_true hv)) ?_
    rw [if_pos rfl]
    refine wp_seq_k fun K3 hK3 => ?_
    refine wp_region_lit ?_
    refine wpl_build [] z5 rfl rfl rfl built_zero ?_
    simp only [Act.put, List.setIfInBounds_toArray, List.set_cons_zero, List.set_cons_succ]
    refine wpList_store_row rfl 27 _ _ rfl (w.heap.size + 1 + 1) rfl z5 rfl 27 _ ho (size_el _ rfl) rfl (Us_one _) ?_
    refine wpl_assign rfl rfl ?_
    refine wpl_nil ?_
    simp only [Exit.then, Act.put, List.setIfInBounds_toArray, List.set_cons_zero, List.set_cons_succ]
    refine hK3 _ _ ?_
    refine wp_ret ?_
    simp only [Exit.then]
    refine bodyPost_ret (results_cell_tmp rfl _ _ (w.heap.size + 1 + 1) 27 z5 (0, 0) _ (.bool false) rfl rfl (ho.row _) Tryd.underlying27 rfl (size_el _ rfl)) rfl ⟨.inr ⟨.inl hv, rfl⟩, ?_⟩
    exact below_setRow hbe (by omega) _
  · refine wp_cond (t := false) (congrArg Value.bool (decide_eq_false hv)) ?_
    rw [if_neg (by decide)]
    refine wp_skip ?_
    simp only [Exit.then]
    refine hK _ _ ?_
    clear hK K
    refine wp_seq_k fun K hK => ?_
    refine reg_var 5 6 27 (.tmp 16) z5 rfl rfl rfl rfl rfl rfl rfl (by kernel_rfl) (tail_ok (by kernel_rfl)) (by kernel_rfl) (fun _ _ d _ _ h => by cases d <;> exact h) (exec_alloc rfl (by kernel_rfl)) ?_
    simp only [List.take_succ_cons, List.take_zero]
    refine b_el (w.heap.size + 1) hB.len _ rfl rfl rfl (fun _ h => h.blk hb) ?_
    simp only [Act.put, List.setIfInBounds_toArray, List.set_cons_zero, List.set_cons_succ]
    refine b_el (w.heap.size + 1) hB.len _ rfl rfl rfl (fun _ h => h.blk hb) ?_
    simp only [Act.put, List.setIfInBounds_toArray, List.set_cons_zero, List.set_cons_succ]
    refine b_fe rfl own_elmul (fun w1 _ => elmul_f hB hB w1) rfl rfl ?_
    intro r1 v1
    simp only [Act.put, List.setIfInBounds_toArray, List.set_cons_zero, List.set_cons_succ]
    refine b_el (w.heap.size + 1) hB.len _ rfl rfl rfl (fun _ h => h.blk hb) ?_
    simp only [Act.put, List.setIfInBounds_toArray, List.set_cons_zero, List.set_cons_succ]
    refine b_fe rfl own_elmul (fun w1 _ => elmul_f v1 hB w1) rfl rfl ?_
    intro r2 v2
    simp only [Act.put, List.setIfInBounds_toArray, List.set_cons_zero, List.set_cons_succ]
    refine wpB_nil ⟨(Us r2).toArray, fun _ => rfl, fun _ => rfl, (len_us v2.len).symm, size_el _ (len_us v2.len), Us_one _, fun gthree W1 hgthree hw1 hbthree => ?_⟩
    simp only [Exit.then, Act.put, List.setIfInBounds_toArray, List.set_cons_zero, List.set_cons_succ]
    refine hK _ _ ?_
    clear hK K
    have hu := hw1.blk hu
    have hb := hw1.blk hb
    have ho := hw1.blk ho
    have hT := hT.below hw1
    have hbe := below_up hbe hw1
    clear hw1
    refine wp_seq_k fun K hK => ?_
    refine reg_var 12 7 27 (.tmp 28) z5 rfl rfl rfl rfl rfl rfl rfl (by kernel_rfl) (tail_ok (by kernel_rfl)) (by kernel_rfl) (fun _ _ d _ _ h => by cases d <;> exact h) (exec_alloc rfl (by kernel_rfl)) ?_
    simp only [List.take_succ_cons, List.take_zero]
    refine b_el w.heap.size hA.len _ rfl rfl rfl (fun _ h => h.blk hu) ?_
    simp only [Act.put, List.setIfInBounds_toArray, List.set_cons_zero, List.set_cons_succ]
    refine b_el gthree v2.len _ rfl rfl rfl (fun _ h => h.blk hbthree) ?_
    simp only [Act.put, List.setIfInBounds_toArray, List.set_cons_zero, List.set_cons_succ]
    refine b_fe rfl own_elmul (fun w1 _ => elmul_f hA v2 w1) rfl rfl ?_
    intro r3 v3
    simp only [Act.put, List.setIfInBounds_toArray, List.set_cons_zero, List.set_cons_succ]
    refine b_el w.heap.size hA.len _ rfl rfl rfl (fun _ h => h.blk hu) ?_
    simp only [Act.put, List.setIfInBounds_toArray, List.set_cons_zero, List.set_cons_succ]
    refine b_el gthree v2.len _ rfl rfl rfl (fun _ h => h.blk hbthree) ?_
    simp only [Act.put, List.setIfInBounds_toArray, List.set_cons_zero, List.set_cons_succ]
    refine b_fe rfl own_elmul (fun w1 _ => elmul_f hA v2 w1) rfl rfl ?_
    intro r4 v4
    simp only [Act.put, List.setIfInBounds_toArray, List.set_cons_zero, List.set_cons_succ]
    refine b_el gthree v2.len _ rfl rfl rfl (fun _ h => h.blk hbthree) ?_
    simp only [Act.put, List.setIfInBounds_toArray, List.set_cons_zero, List.set_cons_succ]
    refine b_fe rfl own_elmul (fun w1 _ => elmul_f v4 v2 w1) rfl rfl ?_
    intro r5 v5
    simp only [Act.put, List.setIfInBounds_toArray, List.set_cons_zero, List.set_cons_succ]
    refine b_el (w.heap.size + 1) hB.len _ rfl rfl rfl (fun _ h => h.blk hb) ?_
    simp only [Act.put, List.setIfInBounds_toArray, List.set_cons_zero, List.set_cons_succ]
    refine b_fe rfl own_elmul (fun w1 _ => elmul_f v5 hB w1) rfl rfl ?_
    intro r6 v6
    simp only [Act.put, List.setIfInBounds_toArray, List.set_cons_zero, List.set_cons_succ]
    refine b_fe rfl own_eighth (fun w1 _ => eighth_f v6 w1) rfl rfl ?_
    intro r7 v7
    simp only [Act.put, List.setIfInBounds_toArray, List.set_cons_zero, List.set_cons_succ]
    refine b_fe rfl own_elmul (fun w1 _ => elmul_f v3 v7 w1) rfl rfl ?_
    intro r8 v8
    simp only [Act.put, List.setIfInBounds_toArray, List.set_cons_zero, List.set_cons_succ]
    refine wpB_nil ⟨(Us r8).toArray, fun _ => rfl, fun _ => rfl, (len_us v8.len).symm, size_el _ (len_us v8.len), Us_one _, fun gx W1 hgx hw1 hbx => ?_⟩
    simp only [Exit.then, Act.put, List.setIfInBounds_toArray, List.set_cons_zero, List.set_cons_succ]
    refine hK _ _ ?_
    clear hK K
    have ne_u := Nat.ne_of_lt (Nat.lt_of_lt_of_le (hu).lt hgx)
    have ne_v := Nat.ne_of_lt (Nat.lt_of_lt_of_le (hb).lt hgx)
    have ne_three := Nat.ne_of_lt (Nat.lt_of_lt_of_le (hbthree).lt hgx)
    have ne_o := Nat.ne_of_lt (Nat.lt_of_lt_of_le ho.lt hgx)
    have hb0 := Nat.le_trans hbe.size hgx
    have hb1 := Nat.lt_of_lt_of_le hT.lt hgx
    have hu := hw1.blk hu
    have hb := hw1.blk hb
    have hbthree := hw1.blk hbthree
    have ho := hw1.blk ho
    have hT := hT.below hw1
    have hbe := below_up hbe hw1
    clear hw1
    generalize hX : u * (v * v * v) * fpow (u * (v * v * v) * (v * v * v) * v) (2 ^ 252 - 3) = X at v8
    refine wp_seq_k fun K hK => ?_
    refine wp_seq_k fun K2 hK2 => ?_
    refine reg_q (by kernel_rfl) (tail_ok (by kernel_rfl)) (fun _ _ d _ _ h => by cases d <;> exact h) ?_
    refine b_el gx v8.len _ rfl rfl rfl (fun _ h => h.blk hbx) ?_
    simp only [Act.put, List.setIfInBounds_toArray, List.set_cons_zero, List.set_cons_succ]
    refine b_el gx v8.len _ rfl rfl rfl (fun _ h => h.blk hbx) ?_
    simp only [Act.put, List.setIfInBounds_toArray, List.set_cons_zero, List.set_cons_succ]
    refine b_fe rfl own_elmul (fun w1 _ => elmul_f v8 v8 w1) rfl rfl ?_
    intro r9 v9
    simp only [Act.put, List.setIfInBounds_toArray, List.set_cons_zero, List.set_cons_succ]
    refine b_el (w.heap.size + 1) hB.len _ rfl rfl rfl (fun _ h => h.blk hb) ?_
    simp only [Act.put, List.setIfInBounds_toArray, List.set_cons_zero, List.set_cons_succ]
    refine b_fe rfl own_elmul (fun w1 _ => elmul_f v9 hB w1) rfl rfl ?_
    intro r10 v10
    simp only [Act.put, List.setIfInBounds_toArray, List.set_cons_zero, List.set_cons_succ]
    refine b_el w.heap.size hA.len _ rfl rfl rfl (fun _ h => h.blk hu) ?_
    simp only [Act.put, List.setIfInBounds_toArray, List.set_cons_zero, List.set_cons_succ]
    refine b_one rfl own_is (fun w1 => is_f v10 hA w1) rfl rfl ?_
    simp only [Act.put, List.setIfInBounds_toArray, List.set_cons_zero, List.set_cons_succ]
    refine b_not _ rfl rfl rfl ?_
    simp only [Act.put, List.setIfInBounds_toArray, List.set_cons_zero, List.set_cons_succ]
    refine wpB_nil ?_
    intro W1 hw1
    simp only [Exit.then]
    refine hK2 _ _ ?_
    clear hK2 K2
    have hu := hw1.blk hu
    have hb := hw1.blk hb
    have hbthree := hw1.blk hbthree
    have hbx := hw1.blk hbx
    have ho := hw1.blk ho
    have hT := hT.below hw1
    have hbe := below_up hbe hw1
    clear hw1
    by_cases h1 : X * X * v = u
    · refine wp_cond (t := false) (congrArg Value.bool (by rw [decide_eq_true h1]; rfl)) ?_
      rw [if_neg (by decide)]
      refine wp_skip ?_
      simp only [Exit.then]
      refine hK _ _ ?_
      clear hK K
      refine wp_seq_k fun K hK => ?_
      refine wp_seq_k fun K2 hK2 => ?_
      refine reg_q (by kernel_rfl) (tail_ok (by kernel_rfl)) (fun _ _ d _ _ h => by cases d <;> exact h) ?_
      refine b_el gx v8.len _ rfl rfl rfl (fun _ h => h.blk hbx) ?_
      simp only [Act.put, List.setIfInBounds_toArray, List.set_cons_zero, List.set_cons_succ]
      refine b_el gx v8.len _ rfl rfl rfl (fun _ h => h.blk hbx) ?_
      simp only [Act.put, List.setIfInBounds_toArray, List.set_cons_zero, List.set_cons_succ]
      refine b_fe rfl own_elmul (fun w1 _ => elmul_f v8 v8 w1) rfl rfl ?_
      intro r11 v11
      simp only [Act.put, List.setIfInBounds_toArray, List.set_cons_zero, List.set_cons_succ]
      refine b_el (w.heap.size + 1) hB.len _ rfl rfl rfl (fun _ h => h.blk hb) ?_
      simp only [Act.put, List.setIfInBounds_toArray, List.set_cons_zero, List.set_cons_succ]
      refine b_fe rfl own_elmul (fun w1 _ => elmul_f v11 hB w1) rfl rfl ?_
      intro r12 v12
      simp only [Act.put, List.setIfInBounds_toArray, List.set_cons_zero, List.set_cons_succ]
      refine b_el w.heap.size hA.len _ rfl rfl rfl (fun _ h => h.blk hu) ?_
      simp only [Act.put, List.setIfInBounds_toArray, List.set_cons_zero, List.set_cons_succ]
      refine b_one rfl own_is (fun w1 => is_f v12 hA w1) rfl rfl ?_
      simp only [Act.put, List.setIfInBounds_toArray, List.set_cons_zero, List.set_cons_succ]
      refine b_not _ rfl rfl rfl ?_
      simp only [Act.put, List.setIfInBounds_toArray, List.set_cons_zero, List.set_cons_succ]
      refine wpB_nil ?_
      intro W1 hw1
      simp only [Exit.then]
      refine hK2 _ _ ?_
      clear hK2 K2
      have hu := hw1.blk hu
      have hb := hw1.blk hb
      have hbthree := hw1.blk hbthree
      have hbx := hw1.blk hbx
      have ho := hw1.blk ho
      have hT := hT.below hw1
      have hbe := below_up hbe hw1
      clear hw1
      refine wp_cond (t := false) (congrArg Value.bool (by rw [decide_eq_true h1]; rfl)) ?_
      rw [if_neg (by decide)]
      refine wp_skip ?_
      simp only [Exit.then]
      refine hK _ _ ?_
      clear hK K
      refine wp_seq_k fun K hK => ?_
      refine wp_seq_k fun K2 hK2 => ?_
      refine reg_qF ?_
      refine b_el gx v8.len _ rfl rfl rfl (fun _ h => h.blk hbx) ?_
      simp only [Act.put, List.setIfInBounds_toArray, List.set_cons_zero, List.set_cons_succ]
      refine b_one rfl own_odd (fun w1 => odd_f v8 w1) rfl rfl ?_
      simp only [Act.put, List.setIfInBounds_toArray, List.set_cons_zero, List.set_cons_succ]
      refine wpB_nil ?_
      intro W1 hw1
      simp only [Exit.then]
      refine hK2 _ _ ?_
      clear hK2 K2
      have hu := hw1.blk hu
      have hb := hw1.blk hb
      have hbthree := hw1.blk hbthree
      have hbx := hw1.blk hbx
      have ho := hw1.blk ho
      have hT := hT.below hw1
      have hbe := below_up hbe hw1
      clear hw1
      by_cases ho2 : (X).val % 2 = 1
      · refine wp_cond (t := true) (congrArg Value.bool (decide_eq_true ho2)) ?_
        rw [if_pos rfl]
        refine reg_setF 3 (.tmp 7) 27 (.tmp 54) rfl rfl rfl rfl ?_
        simp only [List.take_succ_cons, List.take_zero]
        refine b_build [] z5 rfl rfl rfl built_zero ?_
        simp only [Act.put, List.setIfInBounds_toArray, List.set_cons_zero, List.set_cons_succ]
        refine b_el gx v8.len _ rfl rfl rfl (fun _ h => h.blk hbx) ?_
        simp only [Act.put, List.setIfInBounds_toArray, List.set_cons_zero, List.set_cons_succ]
        refine b_fe rfl own_elsub (fun w1 hw => elsub_f eb_zero v8 w1 (hT.below hw)) rfl rfl ?_
        intro r13 v13
        simp only [Act.put, List.setIfInBounds_toArray, List.set_cons_zero, List.set_cons_succ]
        refine wpB_nil ⟨gx, _, _, rfl, rfl, hbx, (len_us v8.len).trans (len_us v13.len).symm, size_el _ (len_us v13.len), Us_one _, fun W1 hw1 => ?_⟩
        simp only [Exit.then]
        refine hK _ _ ?_
        clear hK K
        have hu := (hw1.blk hu).rowFar ne_u (g' := gx) (Us r13).toArray
        have hb := (hw1.blk hb).rowFar ne_v (g' := gx) (Us r13).toArray
        have hbthree := (hw1.blk hbthree).rowFar ne_three (g' := gx) (Us r13).toArray
        have ho := (hw1.blk ho).rowFar ne_o (g' := gx) (Us r13).toArray
        have hbx := (hw1.blk hbx).row (Us r13).toArray
        have hT := (hT.below hw1).row hb1 (g := gx) (Us r13).toArray
        have hbe := below_setRow (below_up hbe hw1) hb0 (Us r13).toArray
        clear hw1
        generalize World.setRow _ gx (Us r13).toArray = W2 at *
        refine wp_seq_k fun K hK => ?_
        refine wp_region_lit ?_
        refine wpList_load_row rfl 27 _ rfl gx rfl 27 (Us r13).toArray (0, 0) _ hbx Tryd.underlying27 rfl (size_el _ (len_us v13.len)) ?_
        simp only [Act.put, List.setIfInBounds_toArray, List.set_cons_zero, List.set_cons_succ]
        refine wpList_store_row rfl 27 _ _ rfl (w.heap.size + 1 + 1) rfl (Us r13).toArray rfl 27 _ ho (size_el _ (len_us v13.len)) (len_us v13.len).symm (Us_one _) ?_
        refine wpl_assign rfl rfl ?_
        refine wpl_nil ?_
        simp only [Exit.then, Act.put, List.setIfInBounds_toArray, List.set_cons_zero, List.set_cons_succ]
        refine hK _ _ ?_
        clear hK K
        refine wp_ret ?_
        refine bodyPost_ret (results_cell_tmp rfl _ _ (w.heap.size + 1 + 1) 27 (Us r13).toArray (0, 0) _ (.bool true) rfl rfl (ho.row _) Tryd.underlying27 rfl (size_el _ (len_us v13.len))) rfl ⟨.inl ⟨r13, _, v13, hv, root_odd h1 ho2, rfl⟩, ?_⟩
        exact below_setRow hbe (by omega) _
      · refine wp_cond (t := false) (congrArg Value.bool (decide_eq_false ho2)) ?_
        rw [if_neg (by decide)]
        refine wp_skip ?_
        simp only [Exit.then]
        refine hK _ _ ?_
        clear hK K
        refine wp_seq_k fun K hK => ?_
        refine wp_region_lit ?_
        refine wpList_load_row rfl 27 _ rfl gx rfl 27 (Us r8).toArray (0, 0) _ hbx Tryd.underlying27 rfl (size_el _ (len_us v8.len)) ?_
        simp only [Act.put, List.setIfInBounds_toArray, List.set_cons_zero, List.set_cons_succ]
        refine wpList_store_row rfl 27 _ _ rfl (w.heap.size + 1 + 1) rfl (Us r8).toArray rfl 27 _ ho (size_el _ (len_us v8.len)) (len_us v8.len).symm (Us_one _) ?_
        refine wpl_assign rfl rfl ?_
        refine wpl_nil ?_
        simp only [Exit.then, Act.put, List.setIfInBounds_toArray, List.set_cons_zero, List.set_cons_succ]
        refine hK _ _ ?_
        clear hK K
        refine wp_ret ?_
        refine bodyPost_ret (results_cell_tmp rfl _ _ (w.heap.size + 1 + 1) 27 (Us r8).toArray (0, 0) _ (.bool true) rfl rfl (ho.row _) Tryd.underlying27 rfl (size_el _ (len_us v8.len))) rfl ⟨.inl ⟨r8, _, v8, hv, root_even h1 ho2, rfl⟩, ?_⟩
        exact below_setRow hbe (by omega) _
    · refine wp_cond (t := true) (congrArg Value.bool (by rw [decide_eq_false h1]; rfl)) ?_
      rw [if_pos rfl]
      refine reg_setF 4 (.tmp 7) 27 (.tmp 40) rfl rfl rfl rfl ?_
      simp only [List.take_succ_cons, List.take_zero]
      refine b_el gx v8.len _ rfl rfl rfl (fun _ h => h.blk hbx) ?_
      simp only [Act.put, List.setIfInBounds_toArray, List.set_cons_zero, List.set_cons_succ]
      refine b_build _ _ rfl rfl rfl (built_u5 _ _ _ _ _) ?_
      simp only [Act.put, List.setIfInBounds_toArray, List.set_cons_zero, List.set_cons_succ]
      refine b_build _ _ rfl rfl rfl (built_el _ _ _ _ _) ?_
      simp only [Act.put, List.setIfInBounds_toArray, List.set_cons_zero, List.set_cons_succ]
      refine b_fe rfl own_elmul (fun w1 _ => elmul_f v8 eb_im w1) rfl rfl ?_
      intro r11 v11
      simp only [Act.put, List.setIfInBounds_toArray, List.set_cons_zero, List.set_cons_succ]
      refine wpB_nil ⟨gx, _, _, rfl, rfl, hbx, (len_us v8.len).trans (len_us v11.len).symm, size_el _ (len_us v11.len), Us_one _, fun W1 hw1 => ?_⟩
      simp only [Exit.then]
      refine hK _ _ ?_
      clear hK K
      have hu := (hw1.blk hu).rowFar ne_u (g' := gx) (Us r11).toArray
      have hb := (hw1.blk hb).rowFar ne_v (g' := gx) (Us r11).toArray
      have hbthree := (hw1.blk hbthree).rowFar ne_three (g' := gx) (Us r11).toArray
      have ho := (hw1.blk ho).rowFar ne_o (g' := gx) (Us r11).toArray
      have hbx := (hw1.blk hbx).row (Us r11).toArray
      have hT := (hT.below hw1).row hb1 (g := gx) (Us r11).toArray
      have hbe := below_setRow (below_up hbe hw1) hb0 (Us r11).toArray
      clear hw1
      generalize World.setRow _ gx (Us r11).toArray = W2 at *
      refine wp_seq_k fun K hK => ?_
      refine wp_seq_k fun K2 hK2 => ?_
      refine reg_q (by kernel_rfl) (tail_ok (by kernel_rfl)) (fun _ _ d _ _ h => by cases d <;> exact h) ?_
      refine b_el gx v11.len _ rfl rfl rfl (fun _ h => h.blk hbx) ?_
      simp only [Act.put, List.setIfInBounds_toArray, List.set_cons_zero, List.set_cons_succ]
      refine b_el gx v11.len _ rfl rfl rfl (fun _ h => h.blk hbx) ?_
      simp only [Act.put, List.setIfInBounds_toArray, List.set_cons_zero, List.set_cons_succ]
      refine b_fe rfl own_elmul (fun w1 _ => elmul_f v11 v11 w1) rfl rfl ?_
      intro r12 v12
      simp only [Act.put, List.setIfInBounds_toArray, List.set_cons_zero, List.set_cons_succ]
      refine b_el (w.heap.size + 1) hB.len _ rfl rfl rfl (fun _ h => h.blk hb) ?_
      simp only [Act.put, List.setIfInBounds_toArray, List.set_cons_zero, List.set_cons_succ]
      refine b_fe rfl own_elmul (fun w1 _ => elmul_f v12 hB w1) rfl rfl ?_
      intro r13 v13
      simp only [Act.put, List.setIfInBounds_toArray, List.set_cons_zero, List.set_cons_succ]
      refine b_el w.heap.size hA.len _ rfl rfl rfl (fun _ h => h.blk hu) ?_
      simp only [Act.put, List.setIfInBounds_toArray, List.set_cons_zero, List.set_cons_succ]
      refine b_one rfl own_is (fun w1 => is_f v13 hA w1) rfl rfl ?_
      simp only [Act.put, List.setIfInBounds_toArray, List.set_cons_zero, List.set_cons_succ]
      refine b_not _ rfl rfl rfl ?_
      simp only [Act.put, List.setIfInBounds_toArray, List.set_cons_zero, List.set_cons_succ]
      refine wpB_nil ?_
      intro W1 hw1
      simp only [Exit.then]
      refine hK2 _ _ ?_
      clear hK2 K2
      have hu := hw1.blk hu
      have hb := hw1.blk hb
      have hbthree := hw1.blk hbthree
      have hbx := hw1.blk hbx
      have ho := hw1.blk ho
      have hT := hT.below hw1
      have hbe := below_up hbe hw1
      clear hw1
      by_cases h2 : (X * imf) * ((X * imf)) * v = u
      · refine wp_cond (t := false) (congrArg Value.bool (by rw [decide_eq_true h2]; rfl)) ?_
        rw [if_neg (by decide)]
        refine wp_skip ?_
        simp only [Exit.then]
        refine hK _ _ ?_
        clear hK K
        refine wp_seq_k fun K hK => ?_
        refine wp_seq_k fun K2 hK2 => ?_
        refine reg_qF ?_
        refine b_el gx v11.len _ rfl rfl rfl (fun _ h => h.blk hbx) ?_
        simp only [Act.put, List.setIfInBounds_toArray, List.set_cons_zero, List.set_cons_succ]
        refine b_one rfl own_odd (fun w1 => odd_f v11 w1) rfl rfl ?_
        simp only [Act.put, List.setIfInBounds_toArray, List.set_cons_zero, List.set_cons_succ]
        refine wpB_nil ?_
        intro W1 hw1
        simp only [Exit.then]
        refine hK2 _ _ ?_
        clear hK2 K2
        have hu := hw1.blk hu
        have hb := hw1.blk hb
        have hbthree := hw1.blk hbthree
        have hbx := hw1.blk hbx
        have ho := hw1.blk ho
        have hT := hT.below hw1
        have hbe := below_up hbe hw1
        clear hw1
        by_cases ho2 : ((X * imf)).val % 2 = 1
        · refine wp_cond (t := true) (congrArg Value.bool (decide_eq_true ho2)) ?_
          rw [if_pos rfl]
          refine reg_setF 3 (.tmp 7) 27 (.tmp 54) rfl rfl rfl rfl ?_
          simp only [List.take_succ_cons, List.take_zero]
          refine b_build [] z5 rfl rfl rfl built_zero ?_
          simp only [Act.put, List.setIfInBounds_toArray, List.set_cons_zero, List.set_cons_succ]
          refine b_el gx v11.len _ rfl rfl rfl (fun _ h => h.blk hbx) ?_
          simp only [Act.put, List.setIfInBounds_toArray, List.set_cons_zero, List.set_cons_succ]
          refine b_fe rfl own_elsub (fun w1 hw => elsub_f eb_zero v11 w1 (hT.below hw)) rfl rfl ?_
          intro r14 v14
          simp only [Act.put, List.setIfInBounds_toArray, List.set_cons_zero, List.set_cons_succ]
          refine wpB_nil ⟨gx, _, _, rfl, rfl, hbx, (len_us v11.len).trans (len_us v14.len).symm, size_el _ (len_us v14.len), Us_one _, fun W1 hw1 => ?_⟩
          simp only [Exit.then]
          refine hK _ _ ?_
          clear hK K
          have hu := (hw1.blk hu).rowFar ne_u (g' := gx) (Us r14).toArray
          have hb := (hw1.blk hb).rowFar ne_v (g' := gx) (Us r14).toArray
          have hbthree := (hw1.blk hbthree).rowFar ne_three (g' := gx) (Us r14).toArray
          have ho := (hw1.blk ho).rowFar ne_o (g' := gx) (Us r14).toArray
          have hbx := (hw1.blk hbx).row (Us r14).toArray
          have hT := (hT.below hw1).row hb1 (g := gx) (Us r14).toArray
          have hbe := below_setRow (below_up hbe hw1) hb0 (Us r14).toArray
          clear hw1
          generalize World.setRow _ gx (Us r14).toArray = W2 at *
          refine wp_seq_k fun K hK => ?_
          refine wp_region_lit ?_
          refine wpList_load_row rfl 27 _ rfl gx rfl 27 (Us r14).toArray (0, 0) _ hbx Tryd.underlying27 rfl (size_el _ (len_us v14.len)) ?_
          simp only [Act.put, List.setIfInBounds_toArray, List.set_cons_zero, List.set_cons_succ]
          refine wpList_store_row rfl 27 _ _ rfl (w.heap.size + 1 + 1) rfl (Us r14).toArray rfl 27 _ ho (size_el _ (len_us v14.len)) (len_us v14.len).symm (Us_one _) ?_
          refine wpl_assign rfl rfl ?_
          refine wpl_nil ?_
          simp only [Exit.then, Act.put, List.setIfInBounds_toArray, List.set_cons_zero, List.set_cons_succ]
          refine hK _ _ ?_
          clear hK K
          refine wp_ret ?_
          refine bodyPost_ret (results_cell_tmp rfl _ _ (w.heap.size + 1 + 1) 27 (Us r14).toArray (0, 0) _ (.bool true) rfl rfl (ho.row _) Tryd.underlying27 rfl (size_el _ (len_us v14.len))) rfl ⟨.inl ⟨r14, _, v14, hv, root_odd h2 ho2, rfl⟩, ?_⟩
          exact below_setRow hbe (by omega) _
        · refine wp_cond (t := false) (congrArg Value.bool (decide_eq_false ho2)) ?_
          rw [if_neg (by decide)]
          refine wp_skip ?_
          simp only [Exit.then]
          refine hK _ _ ?_
          clear hK K
          refine wp_seq_k fun K hK => ?_
          refine wp_region_lit ?_
          refine wpList_load_row rfl 27 _ rfl gx rfl 27 (Us r11).toArray (0, 0) _ hbx Tryd.underlying27 rfl (size_el _ (len_us v11.len)) ?_
          simp only [Act.put, List.setIfInBounds_toArray, List.set_cons_zero, List.set_cons_succ]
          refine wpList_store_row rfl 27 _ _ rfl (w.heap.size + 1 + 1) rfl (Us r11).toArray rfl 27 _ ho (size_el _ (len_us v11.len)) (len_us v11.len).symm (Us_one _) ?_
          refine wpl_assign rfl rfl ?_
          refine wpl_nil ?_
          simp only [Exit.then, Act.put, List.setIfInBounds_toArray, List.set_cons_zero, List.set_cons_succ]
          refine hK _ _ ?_
          clear hK K
          refine wp_ret ?_
          refine bodyPost_ret (results_cell_tmp rfl _ _ (w.heap.size + 1 + 1) 27 (Us r11).toArray (0, 0) _ (.bool true) rfl rfl (ho.row _) Tryd.underlying27 rfl (size_el _ (len_us v11.len))) rfl ⟨.inl ⟨r11, _, v11, hv, root_even h2 ho2, rfl⟩, ?_⟩
          exact below_setRow hbe (by omega) _
      · refine wp_cond (t := true) (congrArg Value.bool (by rw [decide_eq_false h2]; rfl)) ?_
        rw [if_pos rfl]
        refine wp_seq_k fun K3 hK3 => ?_
        refine wp_region_lit ?_
        refine wpl_build [] z5 rfl rfl rfl built_zero ?_
        simp only [Act.put, List.setIfInBounds_toArray, List.set_cons_zero, List.set_cons_succ]
        refine wpList_store_row rfl 27 _ _ rfl (w.heap.size + 1 + 1) rfl z5 rfl 27 _ ho (size_el _ rfl) rfl (Us_one _) ?_
        refine wpl_assign rfl rfl ?_
        refine wpl_nil ?_
        simp only [Exit.then, Act.put, List.setIfInBounds_toArray, List.set_cons_zero, List.set_cons_succ]
        refine hK3 _ _ ?_
        refine wp_ret ?_
        simp only [Exit.then]
        refine bodyPost_ret (results_cell_tmp rfl _ _ (w.heap.size + 1 + 1) 27 z5 (0, 0) _ (.bool false) rfl rfl (ho.row _) Tryd.underlying27 rfl (size_el _ rfl)) rfl ⟨.inr ⟨.inr fun x => root_none hX h1 h2 x, rfl⟩, ?_⟩
        exact below_setRow hbe (by omega) _
  -- end root
end Go.Proofs.YtchhkejgdcmicaaDoor
