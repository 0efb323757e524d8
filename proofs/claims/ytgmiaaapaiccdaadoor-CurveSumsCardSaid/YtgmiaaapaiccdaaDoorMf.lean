/-
  SEVERAL TEXTS IN ONE: ElRoots, CpM, Cp, ElHash, Steps, Num.
-/
import Derived.Test.YtgmiaaapaiccdaaDoorMe
import Derived.Test.YtgmiaaapaiccdaaDoorMa
import Derived.Test.YtgmiaaapaiccdaaDoorMd
import Derived.Test.YtgmiaaapaiccdaaDoorMb
/-
  THE FIELD'S NUMBERS: Root: the even root of a quotient, where there is one.
-/
namespace Go.Proofs.YtgmiaaapaiccdaaDoor
open Go.RowKit Go.IntWalk Nums

theorem own_is : Own 67 := fun _ _ => by go_simp
theorem own_odd : Own 39 := fun _ _ => by go_simp
theorem own_inv3 : Own 51 := fun _ _ => by go_simp
theorem own_root3 : Own 35 := fun _ _ => by go_simp

theorem eb_zero : EB [0, 0, 0, 0, 0] 0 := EB.mk5 (by omega) (by omega) (by omega) (by omega) (by omega) fof_zero

/-- The program's root of -1. -/
def iml : List Nat := [1718705420411056, 234908883556509, 2233514472574048, 2117202627021982, 765476049583133]
def imf : F := fof (lv iml)
theorem eb_im : EB iml imf := EB.mk5 (by omega) (by omega) (by omega) (by omega) (by omega) rfl
theorem imf_sq : imf * imf = -1 := by
  unfold imf
  rw [← fof_mul]
  have : fof (lv iml * lv iml) = fof (p - 1) := fof_eq (by decide +kernel)
  rw [this, fof_sub (by decide), fof_one, show fof p = 0 from fof_eq (a := p) (b := 0) (by decide)]
  generalize (1 : F) = u
  grind only

/-- What the candidate's square comes to. -/
theorem cand3 (u v : F) (c : F) (hc : fpow (u * (v * v * v) * (v * v * v) * v) (2 ^ 252 - 3) = c) :
    u * (v * v * v) * c * (u * (v * v * v) * c) * v = u * fpow (u * (v * v * v) * (v * v * v) * v) pq := by
  have e : pq = (2 ^ 252 - 3) + (2 ^ 252 - 3) + 1 := by decide
  rw [e, fpow_succ, fpow_add, hc]
  generalize hs : u * (v * v * v) * (v * v * v) * v = s
  subst hs
  grind only

theorem quarter {u v y : F} (hu : u ≠ 0) (h : v * y * y = u) :
    fpow (u * (v * v * v) * (v * v * v) * v) pq = 1 ∨ fpow (u * (v * v * v) * (v * v * v) * v) pq = -1 := by
  have hs : u * (v * v * v) * (v * v * v) * v = (v * v * v * v * y) * (v * v * v * v * y) := by
    rw [← h]
    grind only
  have hne : v * v * v * v * y ≠ 0 := by
    intro h0
    apply hu
    rw [← h]
    by_cases hv : v = 0
    · rw [hv]
      grind only
    · have hvv := mul_ne prime_p (mul_ne prime_p (mul_ne prime_p hv hv) hv) hv
      rcases zero_or prime_p h0 with h1 | h1
      · exact absurd h1 hvv
      · rw [h1]
        grind only
  have h2 := euler_sq hne
  rw [← pq_two, fpow_mul] at h2
  rw [hs]
  generalize fpow (v * v * v * v * y * (v * v * v * v * y)) pq = t at *
  have h3 : t * t = 1 * 1 := by
    rw [show fpow t 2 = t * t from by rw [fpow_succ, fpow_one]] at h2
    rw [h2]
    grind only
  exact root_or prime_p h3

theorem root_none {u v X : F} (hX : u * (v * v * v) * fpow (u * (v * v * v) * (v * v * v) * v) (2 ^ 252 - 3) = X) (h1 : ¬ X * X * v = u) (h2 : ¬ X * imf * (X * imf) * v = u) (y : F) : v * y * y ≠ u := by
  intro h
  have hc := cand3 u v _ rfl
  rw [hX] at hc
  have hu : u ≠ 0 := by
    rintro rfl
    apply h1
    rw [hc]
    grind only
  rcases quarter hu h with h3 | h3
  · apply h1
    rw [hc, h3]
    grind only
  · apply h2
    rw [h3] at hc
    have hi := imf_sq
    generalize imf = i at *
    clear h h1 h2 hX h3 hu
    grind only

theorem root_even {u v X : F} (h : X * X * v = u) (ho : ¬ X.val % 2 = 1) : v * X * X = u ∧ X.val % 2 = 0 := by
  refine ⟨?_, by omega⟩
  rw [← h]
  grind only
theorem root_odd {u v X : F} (h : X * X * v = u) (ho : X.val % 2 = 1) : v * (0 - X) * (0 - X) = u ∧ (0 - X).val % 2 = 0 := by
  have hne : X ≠ 0 := by
    rintro rfl
    revert ho
    decide
  have e : 0 - X = -X := by grind only
  refine ⟨?_, ?_⟩
  · rw [← h]
    grind only
  · rw [e, neg_odd hne]
    omega

theorem Tw.row {w : World} (h : Tw w) {g : Nat} (hg : 0 < g) (cs : Array Value) : Tw (w.setRow g cs) where
  cell := fun i hi => by
    have hf : (w.setRow g cs).heap[0]? = w.heap[0]? := by
      rw [World.setRow]
      simp only [Array.getElem?_modify]
      rw [if_neg (by omega)]
    rw [World.cell?_of_block (w := w) (a := ⟨0, i, none⟩) hf]
    exact h.cell i hi
  lt := by rw [size_setRow]; exact h.lt

set_option maxRecDepth 100000 in
set_option maxHeartbeats 4000000 in
theorem elroot_f {a b : List Nat} {u v : F} (hA : EB a u) (hB : EB b v) (w : World) (hT0 : Tw w) :
    Calls Tryd.prog 35 #[.agg (Us a).toArray, .agg (Us b).toArray] w fun e w' =>
      ((∃ r x, EB r x ∧ v ≠ 0 ∧ (v * x * x = u ∧ x.val % 2 = 0) ∧ e = .returned (.tuple #[.agg (Us r).toArray, .bool true])) ∨ ((v = 0 ∨ ∀ x, v * x * x ≠ u) ∧ e = .returned (.tuple #[.agg z5, .bool false]))) ∧ Below w.heap.size w w' := by
  go_enter Tryd.func35, Tryd.ntmps35
  refine wp_seq_k fun K hK => ?_
  refine wp_region_lit ?_
  refine wpl_box (Us a).toArray rfl rfl rfl ?_
  refine wpl_box (Us b).toArray rfl rfl rfl ?_
  refine wpl_alloc (zs := z5) rfl rfl (by kernel_rfl) ?_
  refine wpl_assign rfl rfl ?_
  refine wpl_nil ?_
  go_simp
  refine hK _ _ ?_
  clear hK K
  refine wp_at (fun W => Blk W w.heap.size 27 (Us a).toArray ∧ Blk W (w.heap.size + 1) 27 (Us b).toArray ∧ Blk W (w.heap.size + 1 + 1) 27 z5 ∧ Below w.heap.size w W)
    ⟨blk3_0 w _ _ _ _, blk3_1 w _ _ _ _, blk3_2 w _ _ _ _, (((Below.refl _ _).alloc (Nat.le_refl _) _).alloc (by simp) _).alloc (by simp; omega) _⟩ ?_
  rintro W ⟨hu, hb, ho, hbe⟩
  have hT := hT0.below hbe
  -- walk root
  refine wp_seq_k fun K hK => ?_
  refine wp_seq_k fun K2 hK2 => ?_
  refine reg_qF ?_
  refine b_el (w.heap.size + 1) hB.len _ rfl rfl rfl (fun _ h => h.blk hb) ?_
  simp only [Act.put, List.setIfInBounds_toArray, List.set_cons_zero, List.set_cons_succ]
  refine b_build [] z5 rfl rfl rfl built_zero ?_
  simp only [Act.put, List.setIfInBounds_toArray, List.set_cons_zero, List.set_cons_succ]
  refine b_one rfl own_is (fun w1 => is_f hB eb_zero w1) rfl rfl ?_
  simp only [Act.put, List.setIfInBounds_toArray, List.set_cons_zero, List.set_cons_succ]
  refine wpB_nil ?_
  intro W1 hw1
  simp only [Exit.then]
  refine hK2 _ _ ?_
  clear hK2 K2
  have hu := hw1.blk hu
  have hb := hw1.blk hb
  have ho := hw1.blk ho
  have hT := hT.below hw1
  have hbe := below_up hbe hw1
  clear hw1
  by_cases hv : v = 0
  · refine wp_cond (t := true) (congrArg Value.bool (decide_eq_true hv)) ?_
    rw [if_pos rfl]
    refine wp_seq_k fun K3 hK3 => ?_
    refine wp_region_lit ?_
    refine wpl_build [] z5 rfl rfl rfl built_zero ?_
    simp only [Act.put, List.setIfInBounds_toArray, List.set_cons_zero, List.set_cons_succ]
    refine wpList_store_row rfl 27 _ _ rfl (w.heap.size + 1 + 1) rfl z5 rfl 27 _ ho (size_el _ rfl) rfl (Us_one _) ?_
    refine wpl_assign rfl rfl ?_
    refine wpl_nil ?_
    simp only [Exit.then, Act.put, List.setIfInBounds_toArray, List.set_cons_zero, List.set_cons_succ]
    refine hK3 _ _ ?_
    refine wp_ret ?_
    simp only [Exit.then]
    refine bodyPost_ret (results_cell_tmp rfl _ _ (w.heap.size + 1 + 1) 27 z5 (0, 0) _ (.bool false) rfl rfl (ho.row _) Tryd.underlying27 rfl (size_el _ rfl)) rfl ⟨.inr ⟨.inl hv, rfl⟩, ?_⟩
    exact below_setRow hbe (by omega) _
  · refine wp_cond (t := false) (congrArg Value.bool (decide_eq_false hv)) ?_
    rw [if_neg (by decide)]
    refine wp_skip ?_
    simp only [Exit.then]
    refine hK _ _ ?_
    clear hK K
    refine wp_seq_k fun K hK => ?_
    refine reg_var 5 6 27 (.tmp 16) z5 rfl rfl rfl rfl rfl rfl rfl (by kernel_rfl) (tail_ok (by kernel_rfl)) (by kernel_rfl) (fun _ _ d _ _ h => by cases d <;> exact h) (exec_alloc rfl (by kernel_rfl)) ?_
    simp only [List.take_succ_cons, List.take_zero]
    refine b_el (w.heap.size + 1) hB.len _ rfl rfl rfl (fun _ h => h.blk hb) ?_
    simp only [Act.put, List.setIfInBounds_toArray, List.set_cons_zero, List.set_cons_succ]
    refine b_el (w.heap.size + 1) hB.len _ rfl rfl rfl (fun _ h => h.blk hb) ?_
    simp only [Act.put, List.setIfInBounds_toArray, List.set_cons_zero, List.set_cons_succ]
    refine b_fe rfl own_elmul (fun w1 _ => elmul_f hB hB w1) rfl rfl ?_
    intro r1 v1
    simp only [Act.put, List.setIfInBounds_toArray, List.set_cons_zero, List.set_cons_succ]
    refine b_el (w.heap.size + 1) hB.len _ rfl rfl rfl (fun _ h => h.blk hb) ?_
    simp only [Act.put, List.setIfInBounds_toArray, List.set_cons_zero, List.set_cons_succ]
    refine b_fe rfl own_elmul (fun w1 _ => elmul_f v1 hB w1) rfl rfl ?_
    intro r2 v2
    simp only [Act.put, List.setIfInBounds_toArray, List.set_cons_zero, List.set_cons_succ]
    refine wpB_nil ⟨(Us r2).toArray, fun _ => rfl, fun _ => rfl, (len_us v2.len).symm, size_el _ (len_us v2.len), Us_one _, fun gthree W1 hgthree hw1 hbthree => ?_⟩
    simp only [Exit.then, Act.put, List.setIfInBounds_toArray, List.set_cons_zero, List.set_cons_succ]
    refine hK _ _ ?_
    clear hK K
    have hu := hw1.blk hu
    have hb := hw1.blk hb
    have ho := hw1.blk ho
    have hT := hT.below hw1
    have hbe := below_up hbe hw1
    clear hw1
    refine wp_seq_k fun K hK => ?_
    refine reg_var 12 7 27 (.tmp 28) z5 rfl rfl rfl rfl rfl rfl rfl (by kernel_rfl) (tail_ok (by kernel_rfl)) (by kernel_rfl) (fun _ _ d _ _ h => by cases d <;> exact h) (exec_alloc rfl (by kernel_rfl)) ?_
    simp only [List.take_succ_cons, List.take_zero]
    refine b_el w.heap.size hA.len _ rfl rfl rfl (fun _ h => h.blk hu) ?_
    simp only [Act.put, List.setIfInBounds_toArray, List.set_cons_zero, List.set_cons_succ]
    refine b_el gthree v2.len _ rfl rfl rfl (fun _ h => h.blk hbthree) ?_
    simp only [Act.put, List.setIfInBounds_toArray, List.set_cons_zero, List.set_cons_succ]
    refine b_fe rfl own_elmul (fun w1 _ => elmul_f hA v2 w1) rfl rfl ?_
    intro r3 v3
    simp only [Act.put, List.setIfInBounds_toArray, List.set_cons_zero, List.set_cons_succ]
    refine b_el w.heap.size hA.len _ rfl rfl rfl (fun _ h => h.blk hu) ?_
    simp only [Act.put, List.setIfInBounds_toArray, List.set_cons_zero, List.set_cons_succ]
    refine b_el gthree v2.len _ rfl rfl rfl (fun _ h => h.blk hbthree) ?_
    simp only [Act.put, List.setIfInBounds_toArray, List.set_cons_zero, List.set_cons_succ]
    refine b_fe rfl own_elmul (fun w1 _ => elmul_f hA v2 w1) rfl rfl ?_
    intro r4 v4
    simp only [Act.put, List.setIfInBounds_toArray, List.set_cons_zero, List.set_cons_succ]
    refine b_el gthree v2.len _ rfl rfl rfl (fun _ h => h.blk hbthree) ?_
    simp only [Act.put, List.setIfInBounds_toArray, List.set_cons_zero, List.set_cons_succ]
    refine b_fe rfl own_elmul (fun w1 _ => elmul_f v4 v2 w1) rfl rfl ?_
    intro r5 v5
    simp only [Act.put, List.setIfInBounds_toArray, List.set_cons_zero, List.set_cons_succ]
    refine b_el (w.heap.size + 1) hB.len _ rfl rfl rfl (fun _ h => h.blk hb) ?_
    simp only [Act.put, List.setIfInBounds_toArray, List.set_cons_zero, List.set_cons_succ]
    refine b_fe rfl own_elmul (fun w1 _ => elmul_f v5 hB w1) rfl rfl ?_
    intro r6 v6
    simp only [Act.put, List.setIfInBounds_toArray, List.set_cons_zero, List.set_cons_succ]
    refine b_fe rfl own_eighth (fun w1 _ => eighth_f v6 w1) rfl rfl ?_
    intro r7 v7
    simp only [Act.put, List.setIfInBounds_toArray, List.set_cons_zero, List.set_cons_succ]
    refine b_fe rfl own_elmul (fun w1 _ => elmul_f v3 v7 w1) rfl rfl ?_
    intro r8 v8
    simp only [Act.put, List.setIfInBounds_toArray, List.set_cons_zero, List.set_cons_succ]
    refine wpB_nil ⟨(Us r8).toArray, fun _ => rfl, fun _ => rfl, (len_us v8.len).symm, size_el _ (len_us v8.len), Us_one _, fun gx W1 hgx hw1 hbx => ?_⟩
    simp only [Exit.then, Act.put, List.setIfInBounds_toArray, List.set_cons_zero, List.set_cons_succ]
    refine hK _ _ ?_
    clear hK K
    have ne_u := Nat.ne_of_lt (Nat.lt_of_lt_of_le (hu).lt hgx)
    have ne_v := Nat.ne_of_lt (Nat.lt_of_lt_of_le (hb).lt hgx)
    have ne_three := Nat.ne_of_lt (Nat.lt_of_lt_of_le (hbthree).lt hgx)
    have ne_o := Nat.ne_of_lt (Nat.lt_of_lt_of_le ho.lt hgx)
    have hb0 := Nat.le_trans hbe.size hgx
    have hb1 := Nat.lt_of_lt_of_le hT.lt hgx
    have hu := hw1.blk hu
    have hb := hw1.blk hb
    have hbthree := hw1.blk hbthree
    have ho := hw1.blk ho
    have hT := hT.below hw1
    have hbe := below_up hbe hw1
    clear hw1
    generalize hX : u * (v * v * v) * fpow (u * (v * v * v) * (v * v * v) * v) (2 ^ 252 - 3) = X at v8
    refine wp_seq_k fun K hK => ?_
    refine wp_seq_k fun K2 hK2 => ?_
    refine reg_q (by kernel_rfl) (tail_ok (by kernel_rfl)) (fun _ _ d _ _ h => by cases d <;> exact h) ?_
    refine b_el gx v8.len _ rfl rfl rfl (fun _ h => h.blk hbx) ?_
    simp only [Act.put, List.setIfInBounds_toArray, List.set_cons_zero, List.set_cons_succ]
    refine b_el gx v8.len _ rfl rfl rfl (fun _ h => h.blk hbx) ?_
    simp only [Act.put, List.setIfInBounds_toArray, List.set_cons_zero, List.set_cons_succ]
    refine b_fe rfl own_elmul (fun w1 _ => elmul_f v8 v8 w1) rfl rfl ?_
    intro r9 v9
    simp only [Act.put, List.setIfInBounds_toArray, List.set_cons_zero, List.set_cons_succ]
    refine b_el (w.heap.size + 1) hB.len _ rfl rfl rfl (fun _ h => h.blk hb) ?_
    simp only [Act.put, List.setIfInBounds_toArray, List.set_cons_zero, List.set_cons_succ]
    refine b_fe rfl own_elmul (fun w1 _ => elmul_f v9 hB w1) rfl rfl ?_
    intro r10 v10
    simp only [Act.put, List.setIfInBounds_toArray, List.set_cons_zero, List.set_cons_succ]
    refine b_el w.heap.size hA.len _ rfl rfl rfl (fun _ h => h.blk hu) ?_
    simp only [Act.put, List.setIfInBounds_toArray, List.set_cons_zero, List.set_cons_succ]
    refine b_one rfl own_is (fun w1 => is_f v10 hA w1) rfl rfl ?_
    simp only [Act.put, List.setIfInBounds_toArray, List.set_cons_zero, List.set_cons_succ]
    refine b_not _ rfl rfl rfl ?_
    simp only [Act.put, List.setIfInBounds_toArray, List.set_cons_zero, List.set_cons_succ]
    refine wpB_nil ?_
    intro W1 hw1
    simp only [Exit.then]
    refine hK2 _ _ ?_
    clear hK2 K2
    have hu := hw1.blk hu
    have hb := hw1.blk hb
    have hbthree := hw1.blk hbthree
    have hbx := hw1.blk hbx
    have ho := hw1.blk ho
    have hT := hT.below hw1
    have hbe := below_up hbe hw1
    clear hw1
    by_cases h1 : X * X * v = u
    · refine wp_cond (t := false) (congrArg Value.bool (by rw [decide_eq_true h1]; rfl)) ?_
      rw [if_neg (by decide)]
      refine wp_skip ?_
      simp only [Exit.then]
      refine hK _ _ ?_
      clear hK K
      refine wp_seq_k fun K hK => ?_
      refine wp_seq_k fun K2 hK2 => ?_
      refine reg_q (by kernel_rfl) (tail_ok (by kernel_rfl)) (fun _ _ d _ _ h => by cases d <;> exact h) ?_
      refine b_el gx v8.len _ rfl rfl rfl (fun _ h => h.blk hbx) ?_
      simp only [Act.put, List.setIfInBounds_toArray, List.set_cons_zero, List.set_cons_succ]
      refine b_el gx v8.len _ rfl rfl rfl (fun _ h => h.blk hbx) ?_
      simp only [Act.put, List.setIfInBounds_toArray, List.set_cons_zero, List.set_cons_succ]
      refine b_fe rfl own_elmul (fun w1 _ => elmul_f v8 v8 w1) rfl rfl ?_
      intro r11 v11
      simp only [Act.put, List.setIfInBounds_toArray, List.set_cons_zero, List.set_cons_succ]
      refine b_el (w.heap.size + 1) hB.len _ rfl rfl rfl (fun _ h => h.blk hb) ?_
      simp only [Act.put, List.setIfInBounds_toArray, List.set_cons_zero, List.set_cons_succ]
      refine b_fe rfl own_elmul (fun w1 _ => elmul_f v11 hB w1) rfl rfl ?_
      intro r12 v12
      simp only [Act.put, List.setIfInBounds_toArray, List.set_cons_zero, List.set_cons_succ]
      refine b_el w.heap.size hA.len _ rfl rfl rfl (fun _ h => h.blk hu) ?_
      simp only [Act.put, List.setIfInBounds_toArray, List.set_cons_zero, List.set_cons_succ]
      refine b_one rfl own_is (fun w1 => is_f v12 hA w1) rfl rfl ?_
      simp only [Act.put, List.setIfInBounds_toArray, List.set_cons_zero, List.set_cons_succ]
      refine b_not _ rfl rfl rfl ?_
      simp only [Act.put, List.setIfInBounds_toArray, List.set_cons_zero, List.set_cons_succ]
      refine wpB_nil ?_
      intro W1 hw1
      simp only [Exit.then]
      refine hK2 _ _ ?_
      clear hK2 K2
      have hu := hw1.blk hu
      have hb := hw1.blk hb
      have hbthree := hw1.blk hbthree
      have hbx := hw1.blk hbx
      have ho := hw1.blk ho
      have hT := hT.below hw1
      have hbe := below_up hbe hw1
      clear hw1
      refine wp_cond (t := false) (congrArg Value.bool (by rw [decide_eq_true h1]; rfl)) ?_
      rw [if_neg (by decide)]
      refine wp_skip ?_
      simp only [Exit.then]
      refine hK _ _ ?_
      clear hK K
      refine wp_seq_k fun K hK => ?_
      refine wp_seq_k fun K2 hK2 => ?_
      refine reg_qF ?_
      refine b_el gx v8.len _ rfl rfl rfl (fun _ h => h.blk hbx) ?_
      simp only [Act.put, List.setIfInBounds_toArray, List.set_cons_zero, List.set_cons_succ]
      refine b_one rfl own_odd (fun w1 => odd_f v8 w1) rfl rfl ?_
      simp only [Act.put, List.setIfInBounds_toArray, List.set_cons_zero, List.set_cons_succ]
      refine wpB_nil ?_
      intro W1 hw1
      simp only [Exit.then]
      refine hK2 _ _ ?_
      clear hK2 K2
      have hu := hw1.blk hu
      have hb := hw1.blk hb
      have hbthree := hw1.blk hbthree
      have hbx := hw1.blk hbx
      have ho := hw1.blk ho
      have hT := hT.below hw1
      have hbe := below_up hbe hw1
      clear hw1
      by_cases ho2 : (X).val % 2 = 1
      · refine wp_cond (t := true) (congrArg Value.bool (decide_eq_true ho2)) ?_
        rw [if_pos rfl]
        refine reg_setF 3 (.tmp 7) 27 (.tmp 54) rfl rfl rfl rfl ?_
        simp only [List.take_succ_cons, List.take_zero]
        refine b_build [] z5 rfl rfl rfl built_zero ?_
        simp only [Act.put, List.setIfInBounds_toArray, List.set_cons_zero, List.set_cons_succ]
        refine b_el gx v8.len _ rfl rfl rfl (fun _ h => h.blk hbx) ?_
        simp only [Act.put, List.setIfInBounds_toArray, List.set_cons_zero, List.set_cons_succ]
        refine b_fe rfl own_elsub (fun w1 hw => elsub_f eb_zero v8 w1 (hT.below hw)) rfl rfl ?_
        intro r13 v13
        simp only [Act.put, List.setIfInBounds_toArray, List.set_cons_zero, List.set_cons_succ]
        refine wpB_nil ⟨gx, _, _, rfl, rfl, hbx, (len_us v8.len).trans (len_us v13.len).symm, size_el _ (len_us v13.len), Us_one _, fun W1 hw1 => ?_⟩
        simp only [Exit.then]
        refine hK _ _ ?_
        clear hK K
        have hu := (hw1.blk hu).rowFar ne_u (g' := gx) (Us r13).toArray
        have hb := (hw1.blk hb).rowFar ne_v (g' := gx) (Us r13).toArray
        have hbthree := (hw1.blk hbthree).rowFar ne_three (g' := gx) (Us r13).toArray
        have ho := (hw1.blk ho).rowFar ne_o (g' := gx) (Us r13).toArray
        have hbx := (hw1.blk hbx).row (Us r13).toArray
        have hT := (hT.below hw1).row hb1 (g := gx) (Us r13).toArray
        have hbe := below_setRow (below_up hbe hw1) hb0 (Us r13).toArray
        clear hw1
        generalize World.setRow _ gx (Us r13).toArray = W2 at *
        refine wp_seq_k fun K hK => ?_
        refine wp_region_lit ?_
        refine wpList_load_row rfl 27 _ rfl gx rfl 27 (Us r13).toArray (0, 0) _ hbx Tryd.underlying27 rfl (size_el _ (len_us v13.len)) ?_
        simp only [Act.put, List.setIfInBounds_toArray, List.set_cons_zero, List.set_cons_succ]
        refine wpList_store_row rfl 27 _ _ rfl (w.heap.size + 1 + 1) rfl (Us r13).toArray rfl 27 _ ho (size_el _ (len_us v13.len)) (len_us v13.len).symm (Us_one _) ?_
        refine wpl_assign rfl rfl ?_
        refine wpl_nil ?_
        simp only [Exit.then, Act.put, List.setIfInBounds_toArray, List.set_cons_zero, List.set_cons_succ]
        refine hK _ _ ?_
        clear hK K
        refine wp_ret ?_
        refine bodyPost_ret (results_cell_tmp rfl _ _ (w.heap.size + 1 + 1) 27 (Us r13).toArray (0, 0) _ (.bool true) rfl rfl (ho.row _) Tryd.underlying27 rfl (size_el _ (len_us v13.len))) rfl ⟨.inl ⟨r13, _, v13, hv, root_odd h1 ho2, rfl⟩, ?_⟩
        exact below_setRow hbe (by omega) _
      · refine wp_cond (t := false) (congrArg Value.bool (decide_eq_false ho2)) ?_
        rw [if_neg (by decide)]
        refine wp_skip ?_
        simp only [Exit.then]
        refine hK _ _ ?_
        clear hK K
        refine wp_seq_k fun K hK => ?_
        refine wp_region_lit ?_
        refine wpList_load_row rfl 27 _ rfl gx rfl 27 (Us r8).toArray (0, 0) _ hbx Tryd.underlying27 rfl (size_el _ (len_us v8.len)) ?_
        simp only [Act.put, List.setIfInBounds_toArray, List.set_cons_zero, List.set_cons_succ]
        refine wpList_store_row rfl 27 _ _ rfl (w.heap.size + 1 + 1) rfl (Us r8).toArray rfl 27 _ ho (size_el _ (len_us v8.len)) (len_us v8.len).symm (Us_one _) ?_
        refine wpl_assign rfl rfl ?_
        refine wpl_nil ?_
        simp only [Exit.then, Act.put, List.setIfInBounds_toArray, List.set_cons_zero, List.set_cons_succ]
        refine hK _ _ ?_
        clear hK K
        refine wp_ret ?_
        refine bodyPost_ret (results_cell_tmp rfl _ _ (w.heap.size + 1 + 1) 27 (Us r8).toArray (0, 0) _ (.bool true) rfl rfl (ho.row _) Tryd.underlying27 rfl (size_el _ (len_us v8.len))) rfl ⟨.inl ⟨r8, _, v8, hv, root_even h1 ho2, rfl⟩, ?_⟩
        exact below_setRow hbe (by omega) _
    · refine wp_cond (t := true) (congrArg Value.bool (by rw [decide_eq_false h1]; rfl)) ?_
      rw [if_pos rfl]
      refine reg_setF 4 (.tmp 7) 27 (.tmp 40) rfl rfl rfl rfl ?_
      simp only [List.take_succ_cons, List.take_zero]
      refine b_el gx v8.len _ rfl rfl rfl (fun _ h => h.blk hbx) ?_
      simp only [Act.put, List.setIfInBounds_toArray, List.set_cons_zero, List.set_cons_succ]
      refine b_build _ _ rfl rfl rfl (built_u5 _ _ _ _ _) ?_
      simp only [Act.put, List.setIfInBounds_toArray, List.set_cons_zero, List.set_cons_succ]
      refine b_build _ _ rfl rfl rfl (built_el _ _ _ _ _) ?_
      simp only [Act.put, List.setIfInBounds_toArray, List.set_cons_zero, List.set_cons_succ]
      refine b_fe rfl own_elmul (fun w1 _ => elmul_f v8 eb_im w1) rfl rfl ?_
      intro r11 v11
      simp only [Act.put, List.setIfInBounds_toArray, List.set_cons_zero, List.set_cons_succ]
      refine wpB_nil ⟨gx, _, _, rfl, rfl, hbx, (len_us v8.len).trans (len_us v11.len).symm, size_el _ (len_us v11.len), Us_one _, fun W1 hw1 => ?_⟩
      simp only [Exit.then]
      refine hK _ _ ?_
      clear hK K
      have hu := (hw1.blk hu).rowFar ne_u (g' := gx) (Us r11).toArray
      have hb := (hw1.blk hb).rowFar ne_v (g' := gx) (Us r11).toArray
      have hbthree := (hw1.blk hbthree).rowFar ne_three (g' := gx) (Us r11).toArray
      have ho := (hw1.blk ho).rowFar ne_o (g' := gx) (Us r11).toArray
      have hbx := (hw1.blk hbx).row (Us r11).toArray
      have hT := (hT.below hw1).row hb1 (g := gx) (Us r11).toArray
      have hbe := below_setRow (below_up hbe hw1) hb0 (Us r11).toArray
      clear hw1
      generalize World.setRow _ gx (Us r11).toArray = W2 at *
      refine wp_seq_k fun K hK => ?_
      refine wp_seq_k fun K2 hK2 => ?_
      refine reg_q (by kernel_rfl) (tail_ok (by kernel_rfl)) (fun _ _ d _ _ h => by cases d <;> exact h) ?_
      refine b_el gx v11.len _ rfl rfl rfl (fun _ h => h.blk hbx) ?_
      simp only [Act.put, List.setIfInBounds_toArray, List.set_cons_zero, List.set_cons_succ]
      refine b_el gx v11.len _ rfl rfl rfl (fun _ h => h.blk hbx) ?_
      simp only [Act.put, List.setIfInBounds_toArray, List.set_cons_zero, List.set_cons_succ]
      refine b_fe rfl own_elmul (fun w1 _ => elmul_f v11 v11 w1) rfl rfl ?_
      intro r12 v12
      simp only [Act.put, List.setIfInBounds_toArray, List.set_cons_zero, List.set_cons_succ]
      refine b_el (w.heap.size + 1) hB.len _ rfl rfl rfl (fun _ h => h.blk hb) ?_
      simp only [Act.put, List.setIfInBounds_toArray, List.set_cons_zero, List.set_cons_succ]
      refine b_fe rfl own_elmul (fun w1 _ => elmul_f v12 hB w1) rfl rfl ?_
      intro r13 v13
      simp only [Act.put, List.setIfInBounds_toArray, List.set_cons_zero, List.set_cons_succ]
      refine b_el w.heap.size hA.len _ rfl rfl rfl (fun _ h => h.blk hu) ?_
      simp only [Act.put, List.setIfInBounds_toArray, List.set_cons_zero, List.set_cons_succ]
      refine b_one rfl own_is (fun w1 => is_f v13 hA w1) rfl rfl ?_
      simp only [Act.put, List.setIfInBounds_toArray, List.set_cons_zero, List.set_cons_succ]
      refine b_not _ rfl rfl rfl ?_
      simp only [Act.put, List.setIfInBounds_toArray, List.set_cons_zero, List.set_cons_succ]
      refine wpB_nil ?_
      intro W1 hw1
      simp only [Exit.then]
      refine hK2 _ _ ?_
      clear hK2 K2
      have hu := hw1.blk hu
      have hb := hw1.blk hb
      have hbthree := hw1.blk hbthree
      have hbx := hw1.blk hbx
      have ho := hw1.blk ho
      have hT := hT.below hw1
      have hbe := below_up hbe hw1
      clear hw1
      by_cases h2 : (X * imf) * ((X * imf)) * v = u
      · refine wp_cond (t := false) (congrArg Value.bool (by rw [decide_eq_true h2]; rfl)) ?_
        rw [if_neg (by decide)]
        refine wp_skip ?_
        simp only [Exit.then]
        refine hK _ _ ?_
        clear hK K
        refine wp_seq_k fun K hK => ?_
        refine wp_seq_k fun K2 hK2 => ?_
        refine reg_qF ?_
        refine b_el gx v11.len _ rfl rfl rfl (fun _ h => h.blk hbx) ?_
        simp only [Act.put, List.setIfInBounds_toArray, List.set_cons_zero, List.set_cons_succ]
        refine b_one rfl own_odd (fun w1 => odd_f v11 w1) rfl rfl ?_
        simp only [Act.put, List.setIfInBounds_toArray, List.set_cons_zero, List.set_cons_succ]
        refine wpB_nil ?_
        intro W1 hw1
        simp only [Exit.then]
        refine hK2 _ _ ?_
        clear hK2 K2
        have hu := hw1.blk hu
        have hb := hw1.blk hb
        have hbthree := hw1.blk hbthree
        have hbx := hw1.blk hbx
        have ho := hw1.blk ho
        have hT := hT.below hw1
        have hbe := below_up hbe hw1
        clear hw1
        by_cases ho2 : ((X * imf)).val % 2 = 1
        · refine wp_cond (t := true) (congrArg Value.bool (decide_eq_true ho2)) ?_
          rw [if_pos rfl]
          refine reg_setF 3 (.tmp 7) 27 (.tmp 54) rfl rfl rfl rfl ?_
          simp only [List.take_succ_cons, List.take_zero]
          refine b_build [] z5 rfl rfl rfl built_zero ?_
          simp only [Act.put, List.setIfInBounds_toArray, List.set_cons_zero, List.set_cons_succ]
          refine b_el gx v11.len _ rfl rfl rfl (fun _ h => h.blk hbx) ?_
          simp only [Act.put, List.setIfInBounds_toArray, List.set_cons_zero, List.set_cons_succ]
          refine b_fe rfl own_elsub (fun w1 hw => elsub_f eb_zero v11 w1 (hT.below hw)) rfl rfl ?_
          intro r14 v14
          simp only [Act.put, List.setIfInBounds_toArray, List.set_cons_zero, List.set_cons_succ]
          refine wpB_nil ⟨gx, _, _, rfl, rfl, hbx, (len_us v11.len).trans (len_us v14.len).symm, size_el _ (len_us v14.len), Us_one _, fun W1 hw1 => ?_⟩
          simp only [Exit.then]
          refine hK _ _ ?_
          clear hK K
          have hu := (hw1.blk hu).rowFar ne_u (g' := gx) (Us r14).toArray
          have hb := (hw1.blk hb).rowFar ne_v (g' := gx) (Us r14).toArray
          have hbthree := (hw1.blk hbthree).rowFar ne_three (g' := gx) (Us r14).toArray
          have ho := (hw1.blk ho).rowFar ne_o (g' := gx) (Us r14).toArray
          have hbx := (hw1.blk hbx).row (Us r14).toArray
          have hT := (hT.below hw1).row hb1 (g := gx) (Us r14).toArray
          have hbe := below_setRow (below_up hbe hw1) hb0 (Us r14).toArray
          clear hw1
          generalize World.setRow _ gx (Us r14).toArray = W2 at *
          refine wp_seq_k fun K hK => ?_
          refine wp_region_lit ?_
          refine wpList_load_row rfl 27 _ rfl gx rfl 27 (Us r14).toArray (0, 0) _ hbx Tryd.underlying27 rfl (size_el _ (len_us v14.len)) ?_
          simp only [Act.put, List.setIfInBounds_toArray, List.set_cons_zero, List.set_cons_succ]
          refine wpList_store_row rfl 27 _ _ rfl (w.heap.size + 1 + 1) rfl (Us r14).toArray rfl 27 _ ho (size_el _ (len_us v14.len)) (len_us v14.len).symm (Us_one _) ?_
          refine wpl_assign rfl rfl ?_
          refine wpl_nil ?_
          simp only [Exit.then, Act.put, List.setIfInBounds_toArray, List.set_cons_zero, List.set_cons_succ]
          refine hK _ _ ?_
          clear hK K
          refine wp_ret ?_
          refine bodyPost_ret (results_cell_tmp rfl _ _ (w.heap.size + 1 + 1) 27 (Us r14).toArray (0, 0) _ (.bool true) rfl rfl (ho.row _) Tryd.underlying27 rfl (size_el _ (len_us v14.len))) rfl ⟨.inl ⟨r14, _, v14, hv, root_odd h2 ho2, rfl⟩, ?_⟩
          exact below_setRow hbe (by omega) _
        · refine wp_cond (t := false) (congrArg Value.bool (decide_eq_false ho2)) ?_
          rw [if_neg (by decide)]
          refine wp_skip ?_
          simp only [Exit.then]
          refine hK _ _ ?_
          clear hK K
          refine wp_seq_k fun K hK => ?_
          refine wp_region_lit ?_
          refine wpList_load_row rfl 27 _ rfl gx rfl 27 (Us r11).toArray (0, 0) _ hbx Tryd.underlying27 rfl (size_el _ (len_us v11.len)) ?_
          simp only [Act.put, List.setIfInBounds_toArray, List.set_cons_zero, List.set_cons_succ]
          refine wpList_store_row rfl 27 _ _ rfl (w.heap.size + 1 + 1) rfl (Us r11).toArray rfl 27 _ ho (size_el _ (len_us v11.len)) (len_us v11.len).symm (Us_one _) ?_
          refine wpl_assign rfl rfl ?_
          refine wpl_nil ?_
          simp only [Exit.then, Act.put, List.setIfInBounds_toArray, List.set_cons_zero, List.set_cons_succ]
          refine hK _ _ ?_
          clear hK K
          refine wp_ret ?_
          refine bodyPost_ret (results_cell_tmp rfl _ _ (w.heap.size + 1 + 1) 27 (Us r11).toArray (0, 0) _ (.bool true) rfl rfl (ho.row _) Tryd.underlying27 rfl (size_el _ (len_us v11.len))) rfl ⟨.inl ⟨r11, _, v11, hv, root_even h2 ho2, rfl⟩, ?_⟩
          exact below_setRow hbe (by omega) _
      · refine wp_cond (t := true) (congrArg Value.bool (by rw [decide_eq_false h2]; rfl)) ?_
        rw [if_pos rfl]
        refine wp_seq_k fun K3 hK3 => ?_
        refine wp_region_lit ?_
        refine wpl_build [] z5 rfl rfl rfl built_zero ?_
        simp only [Act.put, List.setIfInBounds_toArray, List.set_cons_zero, List.set_cons_succ]
        refine wpList_store_row rfl 27 _ _ rfl (w.heap.size + 1 + 1) rfl z5 rfl 27 _ ho (size_el _ rfl) rfl (Us_one _) ?_
        refine wpl_assign rfl rfl ?_
        refine wpl_nil ?_
        simp only [Exit.then, Act.put, List.setIfInBounds_toArray, List.set_cons_zero, List.set_cons_succ]
        refine hK3 _ _ ?_
        refine wp_ret ?_
        simp only [Exit.then]
        refine bodyPost_ret (results_cell_tmp rfl _ _ (w.heap.size + 1 + 1) 27 z5 (0, 0) _ (.bool false) rfl rfl (ho.row _) Tryd.underlying27 rfl (size_el _ rfl)) rfl ⟨.inr ⟨.inr fun x => root_none hX h1 h2 x, rfl⟩, ?_⟩
        exact below_setRow hbe (by omega) _
  -- end root
end Go.Proofs.YtgmiaaapaiccdaaDoor
/-
  PLAIN NUMBERS: the program's formulas for sums and doublings of points; points that are small. No program is imported.
-/
namespace Nums
namespace Ed
section
variable {n : Nat} [NeZero n] {d : Fin n}

theorem Rep.t_eq (hn : Prime n) {x y z t : Fin n} {P : Pt n} (r : Rep x y z P) (ht : t * z = x * y) : t = P.x * P.y * z := by
  refine cancel hn r.z ?_
  rw [ht, r.x, r.y]
  grind only

theorem two_mul (u : Fin n) : u + u = 2 * u := by grind only
theorem plus_e (px py qx qy z1 z2 : Fin n) : (py * z1 + px * z1) * (qy * z2 + qx * z2) - (py * z1 - px * z1) * (qy * z2 - qx * z2) = (px * qy + py * qx) * (2 * (z1 * z2)) := by grind only
theorem plus_h (px py qx qy z1 z2 : Fin n) : (py * z1 + px * z1) * (qy * z2 + qx * z2) + (py * z1 - px * z1) * (qy * z2 - qx * z2) = (py * qy + px * qx) * (2 * (z1 * z2)) := by grind only
theorem plus_t (px py qx qy z1 z2 d : Fin n) : px * py * z1 * ((qx * qy * z2 + qx * qy * z2) * d) = d * px * qx * py * qy * (2 * (z1 * z2)) := by grind only
theorem plus_z (z1 z2 : Fin n) : z1 * (z2 + z2) = 2 * (z1 * z2) := by grind only
theorem fac_p (k u : Fin n) : u + k * u = (1 + k) * u := by grind only
theorem fac_m (k u : Fin n) : u - k * u = (1 - k) * u := by grind only
theorem mix3 (u v e f : Fin n) : u * f * e * (v * e) = u * (v * e * (f * e)) := by grind only
theorem mix4 (u v e f : Fin n) : v * e * (u * f * e) = u * (v * e * (f * e)) := by grind only
theorem mix5 (u v e f : Fin n) : f * e * (u * v * e) = u * (v * e * (f * e)) := by grind only
theorem mix6 (u v e f : Fin n) : u * v * e * (f * e) = u * (f * e * (v * e)) := by grind only

/-- What is common to sums and doublings: e, f, g, h over one u. -/
theorem Rep.efgh (g : Good n d) {P Q : Pt n} (hP : On d P) (hQ : On d Q) {e f gg h u : Fin n} (hu : u ≠ 0) (he : e = (P.x * Q.y + P.y * Q.x) * u) (hf : f = (1 - kk d P Q) * u) (hg : gg = (1 + kk d P Q) * u) (hh : h = (P.y * Q.y + P.x * Q.x) * u) :
    Rep (e * f) (gg * h) (f * gg) (Ed.add d P Q) := by
  have hx := add_x g hP hQ
  have hy := add_y g hP hQ
  have n1 := plus_ne g hP hQ
  have n2 := minus_ne g hP hQ
  subst he hf hg hh
  refine ⟨mul_ne g.pr (mul_ne g.pr n2 hu) (mul_ne g.pr n1 hu), ?_, ?_⟩
  · rw [← hx]
    grind only
  · rw [← hy]
    grind only

theorem Rep.plus (g : Good n d) {P Q : Pt n} (hP : On d P) (hQ : On d Q) {x1 y1 z1 t1 x2 y2 z2 t2 : Fin n} (r : Rep x1 y1 z1 P) (h1 : t1 * z1 = x1 * y1) (s : Rep x2 y2 z2 Q) (h2 : t2 * z2 = x2 * y2) {un li z t e f gg h : Fin n}
    (hun : un = (y1 - x1) * (y2 - x2)) (hli : li = (y1 + x1) * (y2 + x2)) (hz : z = z1 * (z2 + z2)) (ht : t = t1 * ((t2 + t2) * d)) (he : e = li - un) (hf : f = z - t) (hg : gg = z + t) (hh : h = li + un) :
    Rep (e * f) (gg * h) (f * gg) (Ed.add d P Q) ∧ e * h * (f * gg) = e * f * (gg * h) := by
  have e1 := r.t_eq g.pr h1
  have e2 := s.t_eq g.pr h2
  have hu : (2 : Fin n) * (z1 * z2) ≠ 0 := mul_ne g.pr g.two (mul_ne g.pr r.z s.z)
  refine ⟨Rep.efgh g hP hQ hu ?_ ?_ ?_ ?_, by grind only⟩
  · rw [he, hli, hun, r.x, r.y, s.x, s.y, plus_e]
  · rw [hf, hz, ht, e1, e2, plus_t, plus_z, ← fac_m]
    rfl
  · rw [hg, hz, ht, e1, e2, plus_t, plus_z, ← fac_p]
    rfl
  · rw [hh, hli, hun, r.x, r.y, s.x, s.y, plus_h]

theorem dbl_e (px py z : Fin n) : px * z * (py * z) + px * z * (py * z) = (px * py + py * px) * (z * z) := by grind only
theorem dbl_g (px py z : Fin n) : py * z * (py * z) - px * z * (px * z) = (py * py - px * px) * (z * z) := by grind only
theorem dbl_h (px py z : Fin n) : py * z * (py * z) + px * z * (px * z) = (py * py + px * px) * (z * z) := by grind only
theorem dbl_f (k u : Fin n) : u + u - (1 + k) * u = (1 - k) * u := by grind only
theorem on_kk {P : Pt n} (hP : On d P) : P.y * P.y - P.x * P.x = 1 + kk d P P := by
  have h : P.y*P.y - P.x*P.x = 1 + d*P.x*P.x*P.y*P.y := hP
  rw [h]
  rfl
theorem Rep.dbl (g : Good n d) {P : Pt n} (hP : On d P) {x y z : Fin n} (r : Rep x y z P) {xx yy zz xy e gg h f : Fin n} (hxx : xx = x * x) (hyy : yy = y * y) (hzz : zz = z * z) (hxy : xy = x * y)
    (he : e = xy + xy) (hg : gg = yy - xx) (hh : h = yy + xx) (hf : f = zz + zz - gg) : Rep (e * f) (gg * h) (f * gg) (Ed.add d P P) ∧ e * h * (f * gg) = e * f * (gg * h) := by
  have hu : z * z ≠ 0 := mul_ne g.pr r.z r.z
  have hgg : gg = (1 + kk d P P) * (z * z) := by rw [hg, hyy, hxx, r.x, r.y, dbl_g, on_kk hP]
  refine ⟨Rep.efgh g hP hP hu ?_ ?_ hgg ?_, by grind only⟩
  · rw [he, hxy, r.x, r.y, dbl_e]
  · rw [hf, hzz, hgg, dbl_f]
  · rw [hh, hyy, hxx, r.x, r.y, dbl_h]

theorem Rep.one (hn : Prime n) (x y : Fin n) : Rep x y 1 ⟨x, y⟩ := ⟨fun h => ne_one hn h.symm, by show x = x * 1; grind only, by show y = y * 1; grind only⟩
/-- No other point's y is 1. -/
theorem y_one (g : Good n d) {P : Pt n} (hP : On d P) (hy : P.y = 1) : P = zero := by
  have h : P.y*P.y - P.x*P.x = 1 + d*P.x*P.x*P.y*P.y := hP
  rw [hy] at h
  have h2 : P.x * P.x * (d + 1) = 0 := by grind only
  have hd : d + 1 ≠ 0 := fun h0 => by
    obtain ⟨i, hi⟩ := g.i
    refine g.d i ?_
    rw [hi]
    grind only
  have hx : P.x = 0 := by
    by_cases hx : P.x = 0
    · exact hx
    · exact absurd h2 (mul_ne g.pr (mul_ne g.pr hx hx) hd)
  cases P
  simp only at hx hy
  rw [hx, hy]
  rfl
theorem Rep.y_iff (g : Good n d) {P : Pt n} (hP : On d P) {x y z : Fin n} (r : Rep x y z P) : y = z ↔ P = Ed.zero := by
  constructor
  · intro h
    refine y_one g hP (cancel g.pr r.z ?_)
    rw [← r.y, h]
    grind only
  · rintro rfl
    rw [r.y]
    show 1 * z = z
    grind only
end
end Ed
end Nums
/-
  THE PROGRAM'S POINTS: what their cells are; '==' of them; the steps of a walk at numbers and points, over frames by what is known of them.
-/
namespace Go.Proofs.YtgmiaaapaiccdaaDoor
open Go.RowKit Go.IntWalk Nums

/-- A point's limbs: x, y, z, t. -/
def pc (X Y Z T : List Nat) : List Nat := X ++ (Y ++ (Z ++ T))
def zl : List Nat := [0, 0, 0, 0, 0]
def pz : List Nat := pc zl zl zl zl
theorem Us_app (a b : List Nat) : Us (a ++ b) = Us a ++ Us b := by simp [Us]
theorem Us_pc (X Y Z T : List Nat) : Us (pc X Y Z T) = Us X ++ (Us Y ++ (Us Z ++ Us T)) := by simp [pc, Us]
theorem pc_len {X Y Z T : List Nat} (hX : X.length = 5) (hY : Y.length = 5) (hZ : Z.length = 5) (hT : T.length = 5) : (pc X Y Z T).length = 20 := by simp [pc, hX, hY, hZ, hT]
theorem Us_oneA (l : List Nat) : ∀ v ∈ (Us l).toArray.toList, v.oneCell' = true := fun v hv => Us_one l v (by simpa using hv)
theorem us_size {l : List Nat} {n : Nat} (h : l.length = n) : (Us l).toArray.size = n := by rw [List.size_toArray, Us_len, h]

theorem size_cp {n : Nat} (h : n = 20) : (Tryd.prog.info? 29).map (·.size) = some n := by
  rw [h]
  kernel_rfl
theorem size_ad {n : Nat} (h : n = 20) : (Tryd.prog.info? 84).map (·.size) = some n := by
  rw [h]
  kernel_rfl
theorem size_e {l : List Nat} (h : l.length = 5) : (Tryd.prog.info? 27).map (·.size) = some (Us l).length := by
  rw [Us_len, h]
  kernel_rfl

theorem zl_len : zl.length = 5 := rfl
theorem pz_len : pz.length = 20 := rfl
def nvE (t : Nat) : NV := ⟨t, 27, z5⟩
def nvP (t : Nat) : NV := ⟨t, 29, (Us pz).toArray⟩
def nvA (t : Nat) : NV := ⟨t, 84, (Us pz).toArray⟩

section
variable {w : World} {g t : Nat} {X Y Z T : List Nat}
theorem Blk.mid5 {w : World} {g t off : Nat} {A V Z : List Value} (h : Blk w g t (A ++ (V ++ Z)).toArray) (ho : off = A.length) : w.rangeAt g off V := fun j v hv => by
  rw [h.cell (off + j), ho]
  have hj := (List.getElem?_eq_some_iff.1 hv).1
  simp only [List.getElem?_toArray]
  rw [List.getElem?_append_right (by omega), Nat.add_sub_cancel_left, List.getElem?_append_left hj]
  exact hv
theorem Blk.cx (h : Blk w g t (Us (pc X Y Z T)).toArray) : w.rangeAt g 0 (Us X) := by
  rw [Us_pc] at h
  exact Blk.mid5 (A := []) h rfl
theorem Blk.cy (h : Blk w g t (Us (pc X Y Z T)).toArray) (hX : X.length = 5) : w.rangeAt g 5 (Us Y) := by
  rw [Us_pc] at h
  exact Blk.mid5 (A := Us X) h (by rw [Us_len, hX])
theorem Blk.cz (h : Blk w g t (Us (pc X Y Z T)).toArray) (hX : X.length = 5) (hY : Y.length = 5) : w.rangeAt g 10 (Us Z) := by
  rw [Us_pc, ← List.append_assoc] at h
  exact Blk.mid5 h (by simp [Us_len, hX, hY])
theorem Blk.ct (h : Blk w g t (Us (pc X Y Z T)).toArray) (hX : X.length = 5) (hY : Y.length = 5) (hZ : Z.length = 5) : w.rangeAt g 15 (Us T) := by
  rw [Us_pc, ← List.append_assoc, ← List.append_assoc] at h
  have h2 : Blk w g t (Us X ++ Us Y ++ Us Z ++ (Us T ++ [])).toArray := by rw [List.append_nil]; exact h
  exact Blk.mid5 h2 (by simp [Us_len, hX, hY, hZ])
end

/-! ### Fields -/
theorem cpf0 (b : Nat) (w : World) : (Instr.fieldAt 29 (.pointer (some ⟨b, 0, none⟩)) 0).run Tryd.prog w = .ok (.pointer (some ⟨b, 0, none⟩)) w := by go_simp
theorem cpf1 (b : Nat) (w : World) : (Instr.fieldAt 29 (.pointer (some ⟨b, 0, none⟩)) 1).run Tryd.prog w = .ok (.pointer (some ⟨b, 5, none⟩)) w := by go_simp
theorem cpf2 (b : Nat) (w : World) : (Instr.fieldAt 29 (.pointer (some ⟨b, 0, none⟩)) 2).run Tryd.prog w = .ok (.pointer (some ⟨b, 10, none⟩)) w := by go_simp
theorem cpf3 (b : Nat) (w : World) : (Instr.fieldAt 29 (.pointer (some ⟨b, 0, none⟩)) 3).run Tryd.prog w = .ok (.pointer (some ⟨b, 15, none⟩)) w := by go_simp
theorem caf0 (b : Nat) (w : World) : (Instr.fieldAt 84 (.pointer (some ⟨b, 0, none⟩)) 0).run Tryd.prog w = .ok (.pointer (some ⟨b, 0, none⟩)) w := by go_simp
theorem caf1 (b : Nat) (w : World) : (Instr.fieldAt 84 (.pointer (some ⟨b, 0, none⟩)) 1).run Tryd.prog w = .ok (.pointer (some ⟨b, 5, none⟩)) w := by go_simp
theorem caf2 (b : Nat) (w : World) : (Instr.fieldAt 84 (.pointer (some ⟨b, 0, none⟩)) 2).run Tryd.prog w = .ok (.pointer (some ⟨b, 10, none⟩)) w := by go_simp
theorem caf3 (b : Nat) (w : World) : (Instr.fieldAt 84 (.pointer (some ⟨b, 0, none⟩)) 3).run Tryd.prog w = .ok (.pointer (some ⟨b, 15, none⟩)) w := by go_simp

/-! ### Built -/
theorem builtP (parts : List (Nat × Value)) : Tryd.prog.built 29 parts = Instr.fill (#[(0, 5), (5, 5), (10, 5), (15, 5)][·]?) (Us zl ++ (Us zl ++ (Us zl ++ Us zl))).toArray parts :=
  built_of (t := 29) (z := (Us pz).toArray) (pl := [(0, 5), (5, 5), (10, 5), (15, 5)]) (by kernel_rfl)
theorem builtA (parts : List (Nat × Value)) : Tryd.prog.built 84 parts = Instr.fill (#[(0, 5), (5, 5), (10, 5), (15, 5)][·]?) (Us zl ++ (Us zl ++ (Us zl ++ Us zl))).toArray parts :=
  built_of (t := 84) (z := (Us pz).toArray) (pl := [(0, 5), (5, 5), (10, 5), (15, 5)]) (by kernel_rfl)
theorem fill0 {X : List Nat} (hX : X.length = 5) (rest : List (Nat × Value)) : Instr.fill (#[(0, 5), (5, 5), (10, 5), (15, 5)][·]?) (Us zl ++ (Us zl ++ (Us zl ++ Us zl))).toArray ((0, .agg (Us X).toArray) :: rest) = Instr.fill (#[(0, 5), (5, 5), (10, 5), (15, 5)][·]?) (Us X ++ (Us zl ++ (Us zl ++ Us zl))).toArray rest := by
  have h := fill_put (#[(0, 5), (5, 5), (10, 5), (15, 5)][·]?) 0 5 [] (Us zl) (Us zl ++ (Us zl ++ Us zl)) (Us X) rest rfl (by rw [Us_len, hX]) rfl
  rw [List.nil_append, List.nil_append] at h
  exact h
section
variable {X Y Z T : List Nat} (hX : X.length = 5) (hY : Y.length = 5) (hZ : Z.length = 5) (hT : T.length = 5)
include hX hY hZ
theorem fill3 : Instr.fill (#[(0, 5), (5, 5), (10, 5), (15, 5)][·]?) (Us zl ++ (Us zl ++ (Us zl ++ Us zl))).toArray [(0, .agg (Us X).toArray), (1, .agg (Us Y).toArray), (2, .agg (Us Z).toArray)] = some (Us X ++ (Us Y ++ (Us Z ++ Us zl))).toArray := by
  rw [fill0 hX, fill_put _ 1 5 (Us X) (Us zl) (Us zl ++ Us zl) (Us Y) _ (by rw [Us_len, hX]; rfl) (by rw [Us_len, hY]) rfl]
  have e : Us X ++ (Us Y ++ (Us zl ++ Us zl)) = (Us X ++ Us Y) ++ (Us zl ++ Us zl) := by rw [List.append_assoc]
  rw [e, fill_put _ 2 5 (Us X ++ Us Y) (Us zl) (Us zl) (Us Z) _ (by simp [Us_len, hX, hY]) (by rw [Us_len, hZ]) rfl, List.append_assoc]
  rfl
include hT
theorem fill4 : Instr.fill (#[(0, 5), (5, 5), (10, 5), (15, 5)][·]?) (Us zl ++ (Us zl ++ (Us zl ++ Us zl))).toArray [(0, .agg (Us X).toArray), (1, .agg (Us Y).toArray), (2, .agg (Us Z).toArray), (3, .agg (Us T).toArray)] = some (Us (pc X Y Z T)).toArray := by
  rw [fill0 hX, fill_put _ 1 5 (Us X) (Us zl) (Us zl ++ Us zl) (Us Y) _ (by rw [Us_len, hX]; rfl) (by rw [Us_len, hY]) rfl]
  have e : Us X ++ (Us Y ++ (Us zl ++ Us zl)) = (Us X ++ Us Y) ++ (Us zl ++ Us zl) := by rw [List.append_assoc]
  rw [e, fill_put _ 2 5 (Us X ++ Us Y) (Us zl) (Us zl) (Us Z) _ (by simp [Us_len, hX, hY]) (by rw [Us_len, hZ]) rfl]
  have e2 : Us X ++ Us Y ++ (Us Z ++ Us zl) = (Us X ++ (Us Y ++ Us Z)) ++ (Us zl ++ []) := by simp
  rw [e2, fill_put _ 3 5 (Us X ++ (Us Y ++ Us Z)) (Us zl) [] (Us T) _ (by simp [Us_len, hX, hY, hZ]) (by rw [Us_len, hT]) rfl, Us_pc]
  simp [Instr.fill]
theorem builtP4 : Tryd.prog.built 29 [(0, .agg (Us X).toArray), (1, .agg (Us Y).toArray), (2, .agg (Us Z).toArray), (3, .agg (Us T).toArray)] = some (Us (pc X Y Z T)).toArray := by rw [builtP, fill4 hX hY hZ hT]
theorem builtA4 : Tryd.prog.built 84 [(0, .agg (Us X).toArray), (1, .agg (Us Y).toArray), (2, .agg (Us Z).toArray), (3, .agg (Us T).toArray)] = some (Us (pc X Y Z T)).toArray := by rw [builtA, fill4 hX hY hZ hT]
omit hT
theorem builtP3 : Tryd.prog.built 29 [(0, .agg (Us X).toArray), (1, .agg (Us Y).toArray), (2, .agg (Us Z).toArray)] = some (Us (pc X Y Z zl)).toArray := by rw [builtP, fill3 hX hY hZ, Us_pc]
end
theorem builtP0 : Tryd.prog.built 29 [] = some (Us pz).toArray := by rw [builtP]; rfl

/-! ### '==' -/
theorem part_pt (w : World) (A V Z : List Nat) (off : Nat) (ho : A.length = off) (hV : V.length = 5) : (part 27 (Us A ++ (Us V ++ Us Z)).toArray off).run Tryd.prog w = .ok (.agg (Us V).toArray) w := by
  have hagg : (isAgg 27).run Tryd.prog w = .ok true w := by
    unfold isAgg
    rw [Sem.run_bind, run_underlying Tryd.underlying27 w]
    rfl
  have hs : (sizeOf 27).run Tryd.prog w = .ok 5 w := by kernel_rfl
  have he : (Us A ++ (Us V ++ Us Z)).toArray.extract off (off + 5) = (Us V).toArray := by
    apply Array.ext'
    simp only [List.extract_toArray, List.extract_eq_take_drop]
    rw [List.drop_append, List.drop_eq_nil_of_le (by rw [Us_len]; omega), Us_len, ho, Nat.sub_self, List.drop_zero, List.nil_append, Nat.add_sub_cancel_left, List.take_append, Us_len, hV, Nat.sub_self, List.take_zero, List.append_nil, List.take_of_length_le (by rw [Us_len, hV]; exact Nat.le_refl _)]
  unfold part
  simp only [Sem.run_bind, hagg, Result.andThen_ok, if_true, hs, Sem.run_pure, he]
theorem equal_elD (d : Nat) (l m : List Nat) (hl : l.length = 5) (hm : m.length = 5) (w : World) :
    (Op.equalIn (d + 3) 27 (.agg (Us l).toArray) (.agg (Us m).toArray)).run Tryd.prog w = .ok (decide (l = m)) w := by
  have he := equalIn_words d 5 25 l m Tryd.underlying25 hl hm w
  have hst : Tryd.prog.stoodInHeld 27 = false := by kernel_rfl
  rw [Op.equalIn]
  simp only [Sem.run_bind, run_underlying Tryd.underlying27, Result.andThen_ok, run_program, hst]
  rw [if_neg (by decide)]
  have hp := partEl w l hl
  have hq := partEl w m hm
  generalize decide (l = m) = q at *
  cases q <;> simp [Sem.run_bind, hp, hq, he, Sem.run_pure]
set_option maxRecDepth 20000 in
theorem equal_pt (X Y Z T X' Y' Z' T' : List Nat) (hX : X.length = 5) (hY : Y.length = 5) (hZ : Z.length = 5) (hT : T.length = 5) (hX' : X'.length = 5) (hY' : Y'.length = 5) (hZ' : Z'.length = 5) (hT' : T'.length = 5) (w : World) :
    (Op.equalIn 10000 29 (.agg (Us (pc X Y Z T)).toArray) (.agg (Us (pc X' Y' Z' T')).toArray)).run Tryd.prog w = .ok (decide (X = X' ∧ Y = Y' ∧ Z = Z' ∧ T = T')) w := by
  have e1 := equal_elD 9996 X X' hX hX' w
  have e2 := equal_elD 9996 Y Y' hY hY' w
  have e3 := equal_elD 9996 Z Z' hZ hZ' w
  have e4 := equal_elD 9996 T T' hT hT' w
  have p1 : ∀ X Y Z T : List Nat, X.length = 5 → (part 27 (Us (pc X Y Z T)).toArray 0).run Tryd.prog w = .ok (.agg (Us X).toArray) w := fun X Y Z T h => by
    have := part_pt w [] X (Y ++ (Z ++ T)) 0 rfl h
    simpa [pc, Us] using this
  have p2 : ∀ X Y Z T : List Nat, X.length = 5 → Y.length = 5 → (part 27 (Us (pc X Y Z T)).toArray 5).run Tryd.prog w = .ok (.agg (Us Y).toArray) w := fun X Y Z T h h2 => by
    have := part_pt w X Y (Z ++ T) 5 h h2
    simpa [pc, Us] using this
  have p3 : ∀ X Y Z T : List Nat, X.length = 5 → Y.length = 5 → Z.length = 5 → (part 27 (Us (pc X Y Z T)).toArray 10).run Tryd.prog w = .ok (.agg (Us Z).toArray) w := fun X Y Z T h h2 h3 => by
    have := part_pt w (X ++ Y) Z T 10 (by simp [h, h2]) h3
    simpa [pc, Us] using this
  have p4 : ∀ X Y Z T : List Nat, X.length = 5 → Y.length = 5 → Z.length = 5 → T.length = 5 → (part 27 (Us (pc X Y Z T)).toArray 15).run Tryd.prog w = .ok (.agg (Us T).toArray) w := fun X Y Z T h h2 h3 h4 => by
    have := part_pt w (X ++ (Y ++ Z)) T [] 15 (by simp [h, h2, h3]) h4
    simpa [pc, Us] using this
  have hst : Tryd.prog.stoodInHeld 29 = false := by kernel_rfl
  have a1 := p1 X Y Z T hX
  have a2 := p2 X Y Z T hX hY
  have a3 := p3 X Y Z T hX hY hZ
  have a4 := p4 X Y Z T hX hY hZ hT
  have b1 := p1 X' Y' Z' T' hX'
  have b2 := p2 X' Y' Z' T' hX' hY'
  have b3 := p3 X' Y' Z' T' hX' hY' hZ'
  have b4 := p4 X' Y' Z' T' hX' hY' hZ' hT'
  generalize (Us (pc X Y Z T)).toArray = u at *
  generalize (Us (pc X' Y' Z' T')).toArray = v at *
  clear p1 p2 p3 p4
  rw [Op.equalIn]
  simp only [Sem.run_bind, run_underlying Tryd.underlying29, Result.andThen_ok, run_program, hst]
  rw [if_neg (by decide)]
  by_cases h1 : X = X' <;> by_cases h2 : Y = Y' <;> by_cases h3 : Z = Z' <;> by_cases h4 : T = T' <;>
    simp only [h1, h2, h3, h4, decide_true, decide_false, and_true, and_false] at e1 e2 e3 e4 ⊢ <;>
    simp [Sem.run_bind, a1, a2, a3, a4, b1, b2, b3, b4, e1, e2, e3, e4, h1, h2, h3, h4, Sem.run_pure]

/-! ### What the cells mean -/
/-- Whole coordinates of the point A. -/
structure QB (l : List Nat) (A : Ed.Pt p) : Prop where
  ex : ∃ X Y Z T x y z t, l = pc X Y Z T ∧ EB X x ∧ EB Y y ∧ EB Z z ∧ EB T t ∧ Ed.Rep x y z A ∧ t * z = x * y
  on : Ed.On dd A
/-- The cells are the point A: the zero Point is the neutral one. -/
def PB (l : List Nat) (A : Ed.Pt p) : Prop := (l = pz ∧ A = Ed.zero) ∨ QB l A
/-- The cells are the point A, as it is added. -/
structure AB (l : List Nat) (A : Ed.Pt p) : Prop where
  ex : ∃ X Y Z T x y z t, l = pc X Y Z T ∧ EB X (y + x) ∧ EB Y (y - x) ∧ EB Z (z + z) ∧ EB T ((t + t) * dd) ∧ Ed.Rep x y z A ∧ t * z = x * y
  on : Ed.On dd A
theorem QB.len {l : List Nat} {A : Ed.Pt p} (h : QB l A) : l.length = 20 := by
  obtain ⟨⟨X, Y, Z, T, x, y, z, t, rfl, hX, hY, hZ, hT, _⟩, _⟩ := h
  exact pc_len hX.len hY.len hZ.len hT.len
theorem AB.len {l : List Nat} {A : Ed.Pt p} (h : AB l A) : l.length = 20 := by
  obtain ⟨⟨X, Y, Z, T, x, y, z, t, rfl, hX, hY, hZ, hT, _⟩, _⟩ := h
  exact pc_len hX.len hY.len hZ.len hT.len
theorem PB.len {l : List Nat} {A : Ed.Pt p} (h : PB l A) : l.length = 20 := by
  rcases h with ⟨rfl, _⟩ | h
  · rfl
  · exact h.len
theorem PB.on {l : List Nat} {A : Ed.Pt p} (h : PB l A) : Ed.On dd A := by
  rcases h with ⟨_, rfl⟩ | h
  · exact Ed.on_zero
  · exact h.on
theorem ne_zl {l : List Nat} {z : F} (h : EB l z) (hz : z ≠ 0) : l ≠ zl := by
  rintro rfl
  exact hz (h.val.symm.trans fof_zero)
theorem QB.ne {X Y Z T : List Nat} {z : F} (hZ : EB Z z) (hz : z ≠ 0) : ¬ (X = zl ∧ Y = zl ∧ Z = zl ∧ T = zl) := fun h => ne_zl hZ hz h.2.2.1

/-! ### Steps -/
theorem own_at : Own 40 := fun _ _ => by go_simp
theorem own_pwhole : Own 50 := fun _ _ => by go_simp
theorem own_factor : Own 37 := fun _ _ => by go_simp
theorem own_addend : Own 58 := fun _ _ => by go_simp
theorem own_plus : Own 57 := fun _ _ => by go_simp
theorem own_doubled : Own 53 := fun _ _ => by go_simp
theorem own_elnew : Own 32 := fun _ _ => by go_simp
section
variable {ops : Array Oper} {C0 : World → Prop} {Q : Act → Prop} {N : Nat} {E : List (Nat × Value)} {o : Oper} {rest : List Oper} {k : Nat}
/-- A number is read. -/
theorem f_el {x : Operand} {l : List Nat} (b off : Nat) (hl : l.length = 5) (hg : o.guard = none) (hd : o.dst = some k) (hk : Nat.blt k N = true) (ho : o.op = .load 27 x) (hx : ev E x = some (.pointer (some ⟨b, off, none⟩)))
    (hc : ∀ w, C0 w → w.rangeAt b off (Us l)) (hn : bF Tryd.prog ops C0 Q rest N ((k, .agg (Us l).toArray) :: E)) : bF Tryd.prog ops C0 Q (o :: rest) N E :=
  f_row b off (Us l) _ hg hd hk ho hx hc Tryd.underlying27 rfl (size_e hl) hn
/-- A point is read. -/
theorem f_pt {x : Operand} {l : List Nat} (b off : Nat) (hl : l.length = 20) (hg : o.guard = none) (hd : o.dst = some k) (hk : Nat.blt k N = true) (ho : o.op = .load 29 x) (hx : ev E x = some (.pointer (some ⟨b, off, none⟩)))
    (hc : ∀ w, C0 w → w.rangeAt b off (Us l)) (hn : bF Tryd.prog ops C0 Q rest N ((k, .agg (Us l).toArray) :: E)) : bF Tryd.prog ops C0 Q (o :: rest) N E :=
  f_row b off (Us l) _ hg hd hk ho hx hc Tryd.underlying29 rfl (size_cp (by rw [Us_len, hl])) hn
theorem f_ad {x : Operand} {l : List Nat} (b off : Nat) (hl : l.length = 20) (hg : o.guard = none) (hd : o.dst = some k) (hk : Nat.blt k N = true) (ho : o.op = .load 84 x) (hx : ev E x = some (.pointer (some ⟨b, off, none⟩)))
    (hc : ∀ w, C0 w → w.rangeAt b off (Us l)) (hn : bF Tryd.prog ops C0 Q rest N ((k, .agg (Us l).toArray) :: E)) : bF Tryd.prog ops C0 Q (o :: rest) N E :=
  f_row b off (Us l) _ hg hd hk ho hx hc Tryd.underlying84 rfl (size_ad (by rw [Us_len, hl])) hn
/-- A call that hands back limbs of a property. -/
theorem f_us {f : FuncId} {xs : Array Operand} {ats : Array TypeId} (args : Array Value) (V : List Nat → Prop) (hg : o.guard = none) (hd : o.dst = some k) (hk : Nat.blt k N = true)
    (hf : Own f) (hc : ∀ w, C0 w → Calls Tryd.prog f args w (fun e w' => ∃ r, V r ∧ e = .returned (.agg (Us r).toArray) ∧ Below w.heap.size w w'))
    (ho : o.op = .call { callee := .value (.func f), args := xs, argTypes := ats }) (hx : xs.toList.map (ev E) = args.toList.map some) (hn : ∀ r, V r → bF Tryd.prog ops C0 Q rest N ((k, .agg (Us r).toArray) :: E)) : bF Tryd.prog ops C0 Q (o :: rest) N E := by
  refine f_callV args (fun v => ∃ r, V r ∧ v = .agg (Us r).toArray) hg hd hk hf (fun w hw => (hc w hw).mono ?_) ho hx ?_
  · rintro e w2 ⟨r, hr, rfl, hw2⟩
    exact ⟨_, rfl, ⟨r, hr, rfl⟩, hw2⟩
  · rintro _ ⟨r, hr, rfl⟩
    exact hn r hr
end

section
variable {ops : Array Oper} {C0 : World → Prop} {Q : Act → Prop} {N : Nat} {E : List (Nat × Value)} {o : Oper} {rest : List Oper} {k : Nat}
/-- A call that hands back limbs and true. -/
theorem f_tup {f : FuncId} {xs : Array Operand} {ats : Array TypeId} (args : Array Value) (x : F) (hg : o.guard = none) (hd : o.dst = some k) (hk : Nat.blt k N = true)
    (hf : Own f) (hc : ∀ w, C0 w → Calls Tryd.prog f args w (fun e w' => ∃ r, EB r x ∧ e = .returned (.tuple #[.agg (Us r).toArray, .bool true]) ∧ Below w.heap.size w w'))
    (ho : o.op = .call { callee := .value (.func f), args := xs, argTypes := ats }) (hx : xs.toList.map (ev E) = args.toList.map some) (hn : ∀ r, EB r x → bF Tryd.prog ops C0 Q rest N ((k, .tuple #[.agg (Us r).toArray, .bool true]) :: E)) : bF Tryd.prog ops C0 Q (o :: rest) N E := by
  refine f_callV args (fun v => ∃ r, EB r x ∧ v = .tuple #[.agg (Us r).toArray, .bool true]) hg hd hk hf (fun w hw => (hc w hw).mono ?_) ho hx ?_
  · rintro e w2 ⟨r, hr, rfl, hw2⟩
    exact ⟨_, rfl, ⟨r, hr, rfl⟩, hw2⟩
  · rintro _ ⟨r, hr, rfl⟩
    exact hn r hr
end
theorem eq_pz (w : World) : (Op.equalIn 10000 29 (.agg (Us pz).toArray) (.agg (Us pz).toArray)).run Tryd.prog w = .ok true w := by
  have := equal_pt zl zl zl zl zl zl zl zl rfl rfl rfl rfl rfl rfl rfl rfl w
  rw [decide_eq_true ⟨rfl, rfl, rfl, rfl⟩] at this
  exact this
theorem ne_pz {l : List Nat} {A : Ed.Pt p} (h : QB l A) (w : World) : (Op.equalIn 10000 29 (.agg (Us l).toArray) (.agg (Us pz).toArray)).run Tryd.prog w = .ok false w := by
  obtain ⟨⟨X, Y, Z, T, x, y, z, t, rfl, hX, hY, hZ, hT, hr, _⟩, _⟩ := h
  have := equal_pt X Y Z T zl zl zl zl hX.len hY.len hZ.len hT.len rfl rfl rfl rfl w
  rw [decide_eq_false (QB.ne hZ hr.z)] at this
  exact this
theorem size_P {l : List Nat} (h : l.length = 20) : (Tryd.prog.info? 29).map (·.size) = some (Us l).toArray.size := size_cp (us_size h)
theorem size_A {l : List Nat} (h : l.length = 20) : (Tryd.prog.info? 84).map (·.size) = some (Us l).toArray.size := size_ad (us_size h)
theorem size_E {l : List Nat} (h : l.length = 5) : (Tryd.prog.info? 27).map (·.size) = some (Us l).toArray.size := by
  rw [us_size h]
  kernel_rfl

theorem Tw.only {w w' : World} {g : Nat} (h : Tw w) (ho : OnlyG w w' g) (hg : 0 < g) : Tw w' := ⟨fun i hi => by rw [ho.cell _ (by show (0 : Nat) ≠ g; omega)]; exact h.cell i hi, by rw [ho.size]; exact h.lt⟩
/-! ### Begin and end of a call -/
def argE : Nat → List Value → List (Nat × Value)
  | _, [] => []
  | j, v :: vs => (j, v) :: argE (j + 1) vs
theorem argE_look : ∀ (vs : List Value) (j k : Nat) (v : Value), look (argE j vs) k = some v → j ≤ k ∧ vs[k - j]? = some v
  | [], _, _, _, h => by cases h
  | u :: vs, j, k, v, h => by
    rw [argE, look_cons] at h
    split at h
    · rename_i e
      subst e
      cases h
      exact ⟨Nat.le_refl _, by simp⟩
    · obtain ⟨h1, h2⟩ := argE_look vs (j + 1) k v h
      refine ⟨by omega, ?_⟩
      obtain ⟨m, rfl⟩ : ∃ m, k = j + 1 + m := ⟨k - (j + 1), by omega⟩
      rw [show j + 1 + m - (j + 1) = m from by omega] at h2
      rw [show j + 1 + m - j = m + 1 from by omega]
      simpa using h2
theorem calls_F {P : Program} {f : FuncId} {fn : Func} {c : Code} {vs : List Value} {w : World} {R : Ending → World → Prop} (N : Nat) (hf : P.funcs[f]? = some fn) (hb : fn.body = some c) (hn : vs.length + (fn.ntmps - vs.length) = N)
    (h : cF P c (bodyPost P fn R) N (argE 0 vs) w) : Calls P f vs.toArray w R := by
  refine calls_of_wp hf hb (h _ (Fr.start (by simpa using hn) _ fun k v hk => ?_))
  have := (argE_look vs 0 k v hk).2
  simpa using this
theorem Fr.at {N : Nat} {E : List (Nat × Value)} {a : Act} (h : Fr N E a) {k : Nat} {v : Value} (hk : look E k = some v) : a.tmps.getD k undef = v := h.get k v hk
/-- 'return' of what lies in a variable. -/
theorem k_ret_row {P : Program} {fn : Func} {R : Ending → World → Prop} {N : Nat} {E : List (Nat × Value)} {w : World} {q : Tmp} {ty t : TypeId} {d : TypeDesc} (g : Nat) (cs : Array Value) (hr : fn.results = #[.cell q ty]) (hq : look E q = some (.pointer (some ⟨g, 0, none⟩))) (hb : Blk w g t cs)
    (hu : P.underlying ty = some d) (hd : (match d with | .struct _ | .array _ _ => true | _ => false) = true) (hi : (P.info? ty).map (·.size) = some cs.size) (h : R (.returned (.agg cs)) w) : kF (bodyPost P fn R .ret) N E w := fun _ ha => bodyPost_ret (results_cell_row hr _ _ g t cs (0, 0) d (ha.at hq) hb hu hd hi) ha.defers h
end Go.Proofs.YtgmiaaapaiccdaaDoor
/-
  THE FIELD'S NUMBERS: Hash: the bytes of the number below p.
-/
namespace Go.Proofs.YtgmiaaapaiccdaaDoor
open Go.RowKit Go.IntWalk Nums

/-- A word out of two limbs. -/
theorem wd_limbs {l : List Nat} (hl : l.length = 5) (hb : ∀ y ∈ l, y < 2251799813685248) {k : Nat} (hk : k < 4) :
    bits .or .u64 ((l[64 * k / 51]! : Nat) / 2 ^ (64 * k % 51) : Int) (IntKind.u64.wrap ((l[64 * k / 51 + 1]! : Nat) * 2 ^ (51 - 64 * k % 51) : Int)) = ((wd (lv l) k : Nat) : Int) := by
  obtain ⟨a0, a1, a2, a3, a4, rfl⟩ := five hl
  have h0 := hb a0 (by simp)
  have h1 := hb a1 (by simp)
  have h2 := hb a2 (by simp)
  have h3 := hb a3 (by simp)
  have h4 := hb a4 (by simp)
  unfold wd
  rw [lv5]
  have h4' : k = 0 ∨ k = 1 ∨ k = 2 ∨ k = 3 := by omega
  have key : ∀ (i x y r t L : Nat), y * 2 ^ t % 18446744073709551616 % 2 ^ i = 0 → x / 2 ^ r < 2 ^ i → x / 2 ^ r < 18446744073709551616 → y * 2 ^ t % 18446744073709551616 + x / 2 ^ r = L →
      bits .or .u64 ((x : Nat) / 2 ^ r : Int) (IntKind.u64.wrap ((y : Nat) * 2 ^ t : Int)) = (L : Int) := by
    intro i x y r t L e1 e2 e3 e4
    have f1 : ((x : Int) / 2 ^ r) = ((x / 2 ^ r : Nat) : Int) := by simp
    have f2 : IntKind.u64.wrap ((y : Int) * 2 ^ t) = ((y * 2 ^ t % 18446744073709551616 : Nat) : Int) := by
      rw [IntKind.wrap_u64]
      simp
    rw [f1, f2, ← e4, u64_or_nat _ _ e3 (by omega), Nat.or_comm, nat_join i _ _ e1 e2]
  rcases h4' with rfl | rfl | rfl | rfl
  · exact key 51 a0 a1 0 51 _ (by omega) (by omega) (by omega) (by simp only [Nat.reducePow]; omega)
  · exact key 38 a1 a2 13 38 _ (by omega) (by omega) (by omega) (by simp only [Nat.reducePow]; omega)
  · exact key 25 a2 a3 26 25 _ (by omega) (by omega) (by omega) (by simp only [Nat.reducePow]; omega)
  · exact key 12 a3 a4 39 12 _ (by omega) (by omega) (by omega) (by simp only [Nat.reducePow]; omega)

/-- What Hash's rows lie in. -/
structure HSt (w wr : World) (g : Nat) (l : List Nat) (b : List UInt8) (n : Nat) : Prop where
  b1 : Blk wr (w.heap.size + 1) 22 z32
  b2 : Blk wr g 27 (Us l).toArray
  b3 : Blk wr (g + 1) 22 (By (fb b n)).toArray
  be : Below w.heap.size w wr
  hg : w.heap.size + 1 < g
theorem HSt.drew {w wr : World} {g : Nat} {l : List Nat} {b : List UInt8} {n : Nat} (h : HSt w wr g l b n) : HSt w wr.drew g l b n := ⟨h.b1, h.b2, h.b3, h.be.drew, h.hg⟩
theorem HSt.set {w wr : World} {g : Nat} {l : List Nat} {b : List UInt8} {n : Nat} (h : HSt w wr g l b n) : HSt w (wr.setCell ⟨g + 1, n, none⟩ (.int .u8 ((b[n]!).toNat : Int))) g l b (n + 1) where
  b1 := h.b1.far (by have := h.hg; simp; omega) _
  b2 := h.b2.far (by simp) _
  b3 := by
    have h4 := h.b3.set n (.int .u8 ((b[n]!).toNat : Int))
    rw [By_set, fb_set] at h4
    exact h4
  be := h.be.setCell (by have := h.hg; simp; omega) _
  hg := h.hg

set_option maxRecDepth 100000 in
set_option maxHeartbeats 2000000 in
theorem hash_f {a : List Nat} {x : F} (ha : EB a x) (w : World) :
    Calls Tryd.prog 52 #[.agg (Us a).toArray] w fun e w' => e = .returned (.agg (By (enc x)).toArray) ∧ Below w.heap.size w w' := by
  obtain ⟨hl, hb, hL⟩ := whole_all ha
  have hbyte : ∀ m, m < 32 → ((enc x)[m]!).toNat = lv (whole a) / 256 ^ m % 256 := fun m hm => by
    rw [hL]
    exact bytes_get 32 x.val hm
  have hbl : (enc x).length = 32 := enc_len x
  have h0 : ∀ u, Blk ((w.alloc (Obj.cells (Us a).toArray 27)).alloc u) w.heap.size 27 (Us a).toArray := fun u => (Blk.new w _ _).alloc u
  have h1 : Blk ((w.alloc (Obj.cells (Us a).toArray 27)).alloc (Obj.cells z32 22)) (w.heap.size + 1) 22 z32 := heap_alloc2_new w _ _
  have hbel : Below w.heap.size w ((w.alloc (Obj.cells (Us a).toArray 27)).alloc (Obj.cells z32 22)) := ((Below.refl _ _).alloc (Nat.le_refl _) _).alloc (by simp) _
  have HWH := fun w1 => Lib.hid (whole_f ha w1)
  have HK := Lib.hid (And.intro h1 hbel)
  have hza := len_us ha.len
  clear hL h1 hbel
  generalize enc x = b at *
  generalize whole a = l at *
  go_enter Tryd.func52, Tryd.ntmps52
  go_wp2_with (refine wpList_load_row rfl 27 _ rfl w.heap.size rfl 27 (Us a).toArray (0, 0) _ (h0 _) Tryd.underlying27 rfl (size_el _ hza) ?_)
  refine (HWH _).out.mono ?_
  rintro e w1 ⟨rfl, hw1⟩
  obtain ⟨h1, hbel⟩ := HK.out
  have hbe := hbel.trans (hw1.mono hbel.size)
  have h2 := h1.below hw1 h1.lt
  have h2s := h2.lt
  have hn : Blk (w1.alloc (Obj.cells z5 27)) w1.heap.size 27 z5 := Blk.new w1 _ _
  have hzl := len_us hl
  have h3 : HSt w (((w1.alloc (Obj.cells z5 27)).setRow w1.heap.size (Us l).toArray).alloc (Obj.cells z32 22)) w1.heap.size l b 0 := by
    have hb3 := Blk.new ((w1.alloc (Obj.cells z5 27)).setRow w1.heap.size (Us l).toArray) 22 z32
    rw [size_setRow, World.size_alloc] at hb3
    refine ⟨((h2.alloc _).rowFar (by omega) _).alloc _, (hn.row _).alloc _, ?_, ?_, h2s⟩
    · rw [fb_zero]
      exact hb3
    · have hq := below_setRow (cs := (Us l).toArray) (hbe.alloc (o := Obj.cells z5 27) hbe.size) (g := w1.heap.size) (by omega)
      exact hq.alloc hq.size _
  have H3 := Lib.hid h3
  clear h3 h2 h2s hbe hw1 h1 hbel HK HWH h0
  generalize hg : w1.heap.size = g at *
  go_wp2_with (refine wpList_store_row rfl 27 _ _ rfl g rfl (Us l).toArray rfl 27 _ hn (size_el _ hzl) (by rw [hzl]; rfl) (Us_one _) ?_)
  clear hg hn
  go_loopw [11] (fun i wr => ∃ k : Nat, k ≤ 4 ∧ i = .int .i64 k ∧ HSt w wr g l b (8 * k)) (fun i _ => 4 - (intOf i).toNat)
  case atStart => exact ⟨0, by omega, rfl, H3.out⟩
  case round =>
    clear H3
    obtain ⟨k, hk, rfl, hS⟩ := hrel
    by_cases hlt : k < 4
    · have hwd := wd_limbs hl hb hlt
      have hW : wd (lv l) k < 18446744073709551616 := Nat.mod_lt _ (by decide)
      have hby : ∀ j, j < 8 → (b[8 * k + j]!).toNat = wd (lv l) k / 2 ^ (8 * j) % 256 := fun j hj => by
        rw [wd_byte _ _ _ hj, hbyte _ (by omega)]
      have c0 := (hS.b2.drew.cell (64 * k / 51)).trans (Us_at (by omega))
      have c1 := (hS.b2.drew.cell (64 * k / 51 + 1)).trans (Us_at (by omega))
      have qA : IntKind.i64.wrap (64 * (k : Int)) = ((64 * k : Nat) : Int) := by rw [i64_left, wrap64_in _ (by omega)]; omega
      have qd : ((64 * k : Nat) : Int).tdiv 51 = ((64 * k / 51 : Nat) : Int) := rfl
      have qm : ((64 * k : Nat) : Int).tmod 51 = ((64 * k % 51 : Nat) : Int) := rfl
      have qs : IntKind.i64.wrap (((64 * k / 51 : Nat) : Int) + 1) = ((64 * k / 51 + 1 : Nat) : Int) := by rw [i64_left, wrap64_in _ (by omega)]; omega
      have qt : IntKind.i64.wrap (51 - ((64 * k % 51 : Nat) : Int)) = ((51 - 64 * k % 51 : Nat) : Int) := by rw [i64_left, wrap64_in _ (by omega)]; omega
      have g1 : ((64 * k / 51 + 1 : Nat) : Int) < 5 := by omega
      have g2 : ((64 * k / 51 : Nat) : Int) < 5 := by omega
      have g3 : ((64 * k % 51 : Nat) : Int) ≤ 64 := by omega
      have g4 : ((51 - 64 * k % 51 : Nat) : Int) ≤ 64 := by omega
      have g5 : (0 : Int) ≤ (k : Int) := by omega
      generalize wd (lv l) k = W at *
      generalize l[64 * k / 51]! = u at *
      generalize l[64 * k / 51 + 1]! = v at *
      generalize 51 - 64 * k % 51 = t at *
      generalize 64 * k % 51 = r at *
      generalize 64 * k / 51 + 1 = q1 at *
      generalize 64 * k / 51 = q at *
      generalize 64 * k = A at *
      have HS := Lib.hid hS
      clear hS
      go_wp2
      go_region
      clear qA qd qm qs qt g1 g2 g3 g4 c0 c1 hwd
      go_wp2
      go_loopw [35] (fun i wq => ∃ j : Nat, j ≤ 8 ∧ i = .int .i64 j ∧ HSt w wq g l b (8 * k + j)) (fun i _ => 8 - (intOf i).toNat)
      case atStart => exact ⟨0, by omega, rfl, HS.out.drew⟩
      case round =>
        clear HS
        obtain ⟨j, hj, rfl, hS⟩ := hrel
        by_cases hlj : j < 8
        · have hbj := hby j hlj
          have q4 : IntKind.u8.wrap ((W : Int) / 2 ^ (8 * j)) = ((b[8 * k + j]!).toNat : Int) := by
            have f1 : ((W : Int) / 2 ^ (8 * j)) = ((W / 2 ^ (8 * j) : Nat) : Int) := by simp
            rw [f1, IntKind.wrap_u8', hbj]
            omega
          have hN := hS.set
          have hc := (hS.b3.cell (8 * k + j)).trans (By_get (by rw [fb_len]; omega))
          have hf := hS.b3.free (8 * k + j)
          have q1 : IntKind.i64.wrap (8 * (k : Int)) = ((8 * k : Nat) : Int) := by rw [i64_left, wrap64_in _ (by omega)]; omega
          have q2 : IntKind.i64.wrap (((8 * k : Nat) : Int) + (j : Int)) = ((8 * k + j : Nat) : Int) := by rw [i64_left, wrap64_in _ (by omega)]; omega
          have q3 : IntKind.i64.wrap (8 * (j : Int)) = ((8 * j : Nat) : Int) := by rw [i64_left, wrap64_in _ (by omega)]; omega
          have g1 : ((8 * k + j : Nat) : Int) < 32 := by omega
          have g2 : ((8 * j : Nat) : Int) ≤ 64 := by omega
          have e1 : 8 * k + (j + 1) = 8 * k + j + 1 := by omega
          have HN := Lib.hid hN
          clear hS hby hbj hN
          generalize (b[8 * k + j]!).toNat = y at *
          generalize 8 * k + j = m at *
          generalize 8 * k = a8 at *
          generalize 8 * j = n at *
          go_wp2
          go_roundw
          case rel =>
            exact ⟨j + 1, by omega, by go_num, by rw [e1]; exact HN.out⟩
          case measure => simp [intOf]; omega
        · obtain rfl : j = 8 := by omega
          have HS := Lib.hid hS
          clear hS
          go_wp2
          go_roundw
          case rel => exact ⟨k + 1, by omega, by go_num, by rw [show 8 * (k + 1) = 8 * k + 8 by omega]; exact HS.out⟩
          case measure => simp [intOf]; omega
    · obtain rfl : k = 4 := by omega
      obtain ⟨b1, b2, b3, be, hg⟩ := hS
      rw [show 8 * 4 = 32 from rfl, fb_all hbl] at b3
      have hz : (By b).toArray.size = 32 := by rw [List.size_toArray, By_len, hbl]
      clear b2
      go_wp2_with (first
        | (refine wpList_load_row rfl 22 _ rfl (g + 1) rfl 22 (By b).toArray (0, 0) _ b3 Tryd.underlying22 rfl (size_hash _ hz) ?_)
        | (refine wpList_store_row rfl 22 _ _ rfl (w.heap.size + 1) rfl (By b).toArray rfl 22 _ b1 (size_hash _ hz) (by rw [hz]; rfl) (By_one _) ?_))
      refine bodyPost_ret (results_cell_row rfl _ _ (w.heap.size + 1) 22 (By b).toArray (0, 0) _ rfl (b1.row _) Tryd.underlying22 rfl (size_hash _ hz)) rfl ⟨rfl, ?_⟩
      exact below_setRow be (by omega) _
end Go.Proofs.YtgmiaaapaiccdaaDoor
/-
  PLAIN NUMBERS: the carries step by step. No program is imported.
-/
namespace Nums

theorem chain_snoc : ∀ (c : Int) (l : List Int) (d : Int), chain c (l ++ [d]) = ((chain c l).1 ++ [(d + (chain c l).2) % 65536], (d + (chain c l).2) / 65536)
  | c, [], d => rfl
  | c, x :: l, d => by
    have ih := chain_snoc ((x + c) / 65536) l d
    show (((x + c) % 65536) :: (chain ((x + c) / 65536) (l ++ [d])).1, (chain ((x + c) / 65536) (l ++ [d])).2) = _
    rw [ih]
    rfl

def bump (c : Int) : List Int → List Int
  | [] => []
  | d :: ds => (d + c) :: ds

/-- The row when k digits have been carried. -/
def pst (l : List Int) (k : Nat) : List Int := (chain 0 (l.take k)).1 ++ bump (chain 0 (l.take k)).2 (l.drop k)

theorem pst_zero (l : List Int) : pst l 0 = l := by
  unfold pst
  cases l with
  | nil => rfl
  | cons d ds =>
    show (d + 0) :: ds = d :: ds
    rw [Int.add_zero]

theorem bump_len (c : Int) (l : List Int) : (bump c l).length = l.length := by cases l <;> rfl

theorem pst_len (l : List Int) (k : Nat) : (pst l k).length = l.length := by
  unfold pst
  rw [List.length_append, chain_len, bump_len, ← List.length_append, List.take_append_drop]

theorem get_mid (a : List Int) (x : Int) (b : List Int) {k : Nat} (h : a.length = k) : (a ++ x :: b)[k]! = x := by
  subst h
  rw [getElem!_pos _ a.length (by simp), List.getElem_append_right (Nat.le_refl _)]
  simp
theorem set_mid (a : List Int) (x v : Int) (b : List Int) {k : Nat} (h : a.length = k) : (a ++ x :: b).set k v = a ++ v :: b := by
  subst h
  rw [List.set_append_right _ _ (Nat.le_refl _), Nat.sub_self]
  rfl

theorem drop_two {l : List Int} {k : Nat} (h : k + 1 < l.length) : l.drop k = l[k]! :: l[k+1]! :: l.drop (k + 2) := by
  rw [List.drop_eq_getElem_cons (by omega), List.drop_eq_getElem_cons h, getElem!_pos l k (by omega), getElem!_pos l (k+1) h]
theorem take_one {l : List Int} {k : Nat} (h : k < l.length) : l.take (k + 1) = l.take k ++ [l[k]!] := by
  rw [List.take_succ_eq_append_getElem h, getElem!_pos l k h]

theorem pst_split {l : List Int} {k : Nat} (h : k < l.length) : pst l k = (chain 0 (l.take k)).1 ++ (l[k]! + (chain 0 (l.take k)).2) :: l.drop (k + 1) := by
  unfold pst
  rw [List.drop_eq_getElem_cons h, getElem!_pos l k h]
  rfl

theorem pst_next {l : List Int} {k : Nat} (h : k + 1 < l.length) :
    pst l (k + 1) = ((pst l k).set k ((pst l k)[k]! % 65536)).set (k + 1) ((pst l k)[k+1]! + (pst l k)[k]! / 65536) := by
  have hl : (chain 0 (l.take k)).1.length = k := by rw [chain_len, List.length_take]; omega
  have e1 := pst_split (l := l) (k := k) (by omega)
  have e2 : l.drop (k + 1) = l[k+1]! :: l.drop (k + 2) := by rw [List.drop_eq_getElem_cons h, getElem!_pos l (k+1) h]
  have e3 := pst_split (l := l) (k := k + 1) h
  rw [take_one (by omega), chain_snoc] at e3
  rw [e2] at e1
  have g1 : (pst l k)[k]! = l[k]! + (chain 0 (l.take k)).2 := by rw [e1]; exact get_mid _ _ _ hl
  have g2 : (pst l k)[k+1]! = l[k+1]! := by
    rw [e1, show ∀ (a : List Int) x y b, a ++ x :: y :: b = (a ++ [x]) ++ y :: b from fun a x y b => by simp]
    exact get_mid _ _ _ (by simp [hl])
  rw [g1, g2, e3, e1, set_mid _ _ _ _ hl]
  rw [show ∀ (a : List Int) x y b, a ++ x :: y :: b = (a ++ [x]) ++ y :: b from fun a x y b => by simp, set_mid _ _ _ _ (by simp [hl])]

theorem pst_last {l : List Int} (h : l.length = 16) :
    carry l = ((pst l 15).set 15 ((pst l 15)[15]! % 65536)).set 0 ((pst l 15)[0]! + 38 * ((pst l 15)[15]! / 65536)) := by
  have hl : (chain 0 (l.take 15)).1.length = 15 := by rw [chain_len, List.length_take]; omega
  have e1 := pst_split (l := l) (k := 15) (by omega)
  rw [List.drop_eq_nil_of_le (by omega)] at e1
  have e0 : chain 0 l = ((chain 0 (l.take 15)).1 ++ [(l[15]! + (chain 0 (l.take 15)).2) % 65536], (l[15]! + (chain 0 (l.take 15)).2) / 65536) := by
    conv => lhs; rw [take15 h]
    rw [chain_snoc]
  have g1 : (pst l 15)[15]! = l[15]! + (chain 0 (l.take 15)).2 := by rw [e1]; exact get_mid _ _ _ hl
  unfold carry
  rw [g1, e0, e1, set_mid _ _ _ _ hl]
  generalize (chain 0 (l.take 15)).1 = a at *
  generalize (chain 0 (l.take 15)).2 = c at *
  match a, hl with
  | d :: ds, _ => rfl

/-- The digits on the way are bounded. -/
theorem pst_bnd {l : List Int} {k : Nat} (h : k < l.length) (hb : Bnd 2305843009213693952 l) : Bnd 4611686018427387904 (pst l k) := by
  have hV := V_bnd (l := l.take k) (B := 2305843009213693952) (fun x hx => hb x (List.mem_of_mem_take hx))
  have hc := (chain_out 0 (l.take k)).1
  have hW := W_pos (l.take k).length
  have hc2 := div_bound (v := V (l.take k) + 0) (b := 2305843009213693952) hW (by omega) (by omega)
  rw [← hc] at hc2
  rw [pst_split h]
  intro x hx
  rcases List.mem_append.mp hx with hx | hx
  · have := chain_small _ _ x hx
    omega
  · rcases List.mem_cons.mp hx with rfl | hx
    · have := hb l[k]! (by rw [getElem!_pos l k h]; exact List.getElem_mem _)
      omega
    · have := hb x (List.mem_of_mem_drop hx)
      omega

end Nums
/-
  THE DOCUMENT'S OWN NUMBERS: carry.
-/
namespace Go.Proofs.YtgmiaaapaiccdaaDoor
open Go.RowKit Nums

theorem bnd_get {B : Int} {l : List Int} (h : Bnd B l) {k : Nat} (hk : k < l.length) : -B ≤ l[k]! ∧ l[k]! ≤ B := h _ (by rw [getElem!_pos l k hk]; exact List.getElem_mem _)

def numT : TypeId := 34
theorem size_num (cs : Array Value) (h : cs.size = 16) : (Tryd.prog.info? 34).map (·.size) = some cs.size := by
  rw [h]
  kernel_rfl

theorem tdiv_nn {z : Int} (h : ¬ z < 0) : z.tdiv 65536 = z / 65536 := Int.tdiv_eq_ediv_of_nonneg (by omega)
theorem tdiv_neg {z : Int} (h : z < 0) : z.tdiv 65536 = -((-z) / 65536) := by
  have : z.tdiv 65536 = -((-z).tdiv 65536) := by rw [Int.neg_tdiv, Int.neg_neg]
  rw [this, Int.tdiv_eq_ediv_of_nonneg (by omega)]
theorem tmod_neg {z : Int} (h : z < 0) : z.tmod 65536 = -((-z) % 65536) := by
  have : z.tmod 65536 = -((-z).tmod 65536) := by rw [Int.neg_tmod, Int.neg_neg]
  rw [this, Int.tmod_eq_emod_of_nonneg (by omega)]

/-- The carry's number, by whichever way it was reckoned: 1 more than the floor. -/
theorem car_a {x : Int} (h : ¬ x + 65536 < 0) : (x + 65536).tdiv 65536 = x / 65536 + 1 := by rw [tdiv_nn h]; omega
theorem car_b {x : Int} (h : x + 65536 < 0) (h2 : ((x + 65536).tmod 65536 != 0) = false) : (x + 65536).tdiv 65536 = x / 65536 + 1 := by
  rw [tmod_neg h] at h2
  simp only [bne_eq_false_iff_eq] at h2
  rw [tdiv_neg h]
  omega
theorem car_c {x : Int} (h : x + 65536 < 0) (h2 : ((x + 65536).tmod 65536 != 0) = true) : (x + 65536).tdiv 65536 = x / 65536 + 2 := by
  rw [tmod_neg h] at h2
  simp only [bne_iff_ne, ne_eq] at h2
  rw [tdiv_neg h]
  omega

def cst (l : List Int) (k : Nat) : List Int := if k = 16 then carry l else pst l k
theorem cst_lt (l : List Int) {k : Nat} (h : k < 16) : cst l k = pst l k := by unfold cst; rw [if_neg (by omega)]
theorem cst_16 (l : List Int) : cst l 16 = carry l := by unfold cst; rw [if_pos rfl]

/-- The row behind three writes, two of them to one digit. -/
theorem thrice {wr : World} {g t : Nat} {s : List Int} (hb : Blk wr g t (Is s).toArray) (k j : Nat) (a : Int) {b c b' c' : Int} (e1 : b = b') (e2 : c = c') :
    Blk (((wr.setCell ⟨g, k, none⟩ (.int .i64 a)).setCell ⟨g, k, none⟩ (.int .i64 b)).setCell ⟨g, j, none⟩ (.int .i64 c)) g t (Is ((s.set k b').set j c')).toArray := by
  subst e1 e2
  have h := ((hb.set k (.int .i64 a)).set k (.int .i64 b)).set j (.int .i64 c)
  rw [Is_set, Is_set, Is_set, List.set_set] at h
  exact h
theorem thrice_below {w wr : World} {g : Nat} (h : Below w.heap.size w wr) (hg : w.heap.size ≤ g) (k j : Nat) (a b c : Value) :
    Below w.heap.size w (((wr.setCell ⟨g, k, none⟩ a).setCell ⟨g, k, none⟩ b).setCell ⟨g, j, none⟩ c) := ((h.setCell hg _).setCell hg _).setCell hg _

set_option maxHeartbeats 1000000 in
theorem carry_any (l : List Int) (w : World) (hl : l.length = 16) (hbd : Bnd 2305843009213693952 l) :
    Calls Tryd.prog 72 #[.agg (Is l).toArray] w fun e w' => e = .returned (.agg (Is (carry l)).toArray) ∧ Below w.heap.size w w' := by
  go_enter Tryd.func72, Tryd.ntmps72
  go_wp2
  go_loopw [3] (fun i wr => ∃ k : Nat, k ≤ 16 ∧ i = .int .i64 k ∧ Blk wr w.heap.size 34 (Is (cst l k)).toArray ∧ Blk wr (w.heap.size + 1) 34 (Is (List.replicate 16 0)).toArray ∧ Below w.heap.size w wr) (fun i _ => 16 - (intOf i).toNat)
  case atStart =>
    refine ⟨0, by omega, rfl, ?_, heap_alloc2_new w _ _, ((Below.refl _ _).alloc (Nat.le_refl _) _).alloc (by simp) _⟩
    rw [cst_lt l (by omega), pst_zero]
    exact heap_alloc2_old w _ _
  case round =>
    obtain ⟨k, hk, rfl, hb, hb1, hbel⟩ := hrel
    by_cases hlt : k < 16
    · rw [cst_lt l hlt] at hb
      have hs : (pst l k).length = 16 := by rw [pst_len, hl]
      have hbk := pst_bnd (k := k) (by omega) hbd
      have hx := bnd_get hbk (k := k) (by omega)
      have hc := (hb.cell k).trans (Is_at (by omega))
      have hf := hb.free k
      by_cases hk15 : k < 15
      · have hN := pst_next (l := l) (k := k) (by omega)
        have hy := bnd_get hbk (k := k + 1) (by omega)
        have hc1 := (hb.cell (k + 1)).trans (Is_at (by omega))
        have hf1 := hb.free (k + 1)
        generalize pst l k = s at *
        generalize s[k]! = x at *
        generalize s[k+1]! = y at *
        go_wp2
        all_goals
          go_roundw
          case rel =>
            refine ⟨k + 1, by omega, by go_num, ?_, (((hb1.far (by simp) _).far (by simp) _).far (by simp) _), thrice_below hbel (Nat.le_refl _) _ _ _ _ _⟩
            rw [cst_lt l (by omega), hN]
            first
              | rw [car_c (by assumption) (by assumption)]
              | rw [car_b (by assumption) (by assumption)]
              | rw [car_a (by omega)]
            exact thrice hb k (k + 1) _ (by unfold wrap64; omega) (by unfold wrap64; omega)
          case measure => simp [intOf]; omega
      · obtain rfl : k = 15 := by omega
        have hN := pst_last hl
        have hy := bnd_get hbk (k := 0) (by omega)
        have hc1 := (hb.cell 0).trans (Is_at (by omega))
        have hf1 := hb.free 0
        generalize pst l 15 = s at *
        generalize s[15]! = x at *
        generalize s[0]! = y at *
        go_wp2
        all_goals
          go_roundw
          case rel =>
            refine ⟨16, by omega, by go_num, ?_, (((hb1.far (by simp) _).far (by simp) _).far (by simp) _), thrice_below hbel (Nat.le_refl _) _ _ _ _ _⟩
            rw [cst_16, hN]
            first
              | rw [car_c (by assumption) (by assumption)]
              | rw [car_b (by assumption) (by assumption)]
              | rw [car_a (by omega)]
            exact thrice hb 15 0 _ (by unfold wrap64; omega) (by unfold wrap64; omega)
          case measure => simp [intOf]
    · obtain rfl : k = 16 := by omega
      rw [cst_16] at hb
      go_wp2_with (first
        | (refine wpList_load_row rfl 34 _ rfl w.heap.size rfl 34 (Is (carry l)).toArray (0, 0) _ hb Tryd.underlying34 rfl (size_num _ (by simp [Is_len, (carry_all hl).1.len])) ?_)
        | (refine wpList_store_row rfl 34 _ _ rfl (w.heap.size + 1) rfl (Is (carry l)).toArray rfl 34 _ hb1 (size_num _ (by simp [Is_len, (carry_all hl).1.len])) (by simp [Is_len, (carry_all hl).1.len]) (Is_one _) ?_))
      refine bodyPost_ret (results_cell_row rfl _ _ (w.heap.size + 1) 34 (Is (carry l)).toArray (0, 0) _ rfl (hb1.row _) Tryd.underlying34 rfl (size_num _ (by simp [Is_len, (carry_all hl).1.len]))) rfl ⟨rfl, ?_⟩
      exact below_setRow hbel (by omega) _
end Go.Proofs.YtgmiaaapaiccdaaDoor
