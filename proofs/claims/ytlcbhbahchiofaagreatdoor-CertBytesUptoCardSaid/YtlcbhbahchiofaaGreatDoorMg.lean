/-
  SEVERAL TEXTS IN ONE: ElRoots, CpM, Cp, UsB, ElHash, Steps, Num, Lent, Load, AddSub, Mul, PackC, Of, Bits, Power, Inv, Good, ElNew, CpAt.
-/
import Derived.Test.YtlcbhbahchiofaaGreatDoorMf
import Derived.Test.YtlcbhbahchiofaaGreatDoorMe
import Derived.Test.YtlcbhbahchiofaaGreatDoorMc
import Derived.Test.YtlcbhbahchiofaaGreatDoorMb
import Derived.Test.YtlcbhbahchiofaaGreatDoorMa
import Derived.StillTailTactics
import Derived.Deep.OwnRows
import Derived.OwnWalk
/-
  THE FIELD'S NUMBERS: Root: the even root of a quotient, where there is one.
-/
namespace Go.Proofs.YtlcbhbahchiofaaGreatDoor
open Go.RowKit Go.IntWalk Nums

theorem own_is : Own 109:=fun _ _=>by go_simp
theorem own_odd : Own 80:=fun _ _=>by go_simp
theorem own_inv3 : Own 77:=fun _ _=>by go_simp
theorem own_root3 : Own 105:=fun _ _=>by go_simp

theorem eb_zero : EB [0,0,0,0,0] 0:=EB.mk5 (by omega) (by omega) (by omega) (by omega) (by omega) fof_zero

def iml : List Nat:=[1718705420411056,234908883556509,2233514472574048,2117202627021982,765476049583133]
def imf : F:=fof (lv iml)
theorem eb_im : EB iml imf:=EB.mk5 (by omega) (by omega) (by omega) (by omega) (by omega) rfl
theorem imf_sq : imf * imf = -1:=by
 unfold imf
 rw [← fof_mul];have : fof (lv iml * lv iml) = fof (p - 1):=fof_eq (by decide +kernel);rw [this,fof_sub (by decide),fof_one,show fof p = 0 from fof_eq (a:=p) (b:=0) (by decide)];generalize (1 : F) = u
 grind only

theorem cand3 (u v : F) (c : F) (hc : fpow (u * (v * v * v) * (v * v * v) * v) (2 ^ 252 - 3) = c) :
  u * (v * v * v) * c * (u * (v * v * v) * c) * v = u * fpow (u * (v * v * v) * (v * v * v) * v) pq:=by
 have e : pq = (2 ^ 252 - 3) + (2 ^ 252 - 3) + 1:=by decide
 rw [e,fpow_succ,fpow_add,hc];generalize hs : u * (v * v * v) * (v * v * v) * v = s;subst hs
 grind only

theorem quarter {u v y : F} (hu : u ≠ 0) (h : v * y * y = u) :
  fpow (u * (v * v * v) * (v * v * v) * v) pq = 1 ∨ fpow (u * (v * v * v) * (v * v * v) * v) pq = -1:=by
 have hs : u * (v * v * v) * (v * v * v) * v = (v * v * v * v * y) * (v * v * v * v * y):=by
  rw [← h]
  grind only
 have hne : v * v * v * v * y ≠ 0:=by
  intro h0
  apply hu
  rw [← h]
  by_cases hv : v = 0
  ·rw [hv]
   grind only
  ·have hvv:=mul_ne prime_p (mul_ne prime_p (mul_ne prime_p hv hv) hv) hv
   rcases zero_or prime_p h0 with h1 | h1
   ·exact absurd h1 hvv
   ·rw [h1]
    grind only
 have h2:=euler_sq hne;rw [← pq_two,fpow_mul] at h2;rw [hs];generalize fpow (v * v * v * v * y * (v * v * v * v * y)) pq = t at *
 have h3 : t * t = 1 * 1:=by
  rw [show fpow t 2 = t * t from by rw [fpow_succ,fpow_one]] at h2;rw [h2]
  grind only
 exact root_or prime_p h3

theorem root_none {u v X : F} (hX : u * (v * v * v) * fpow (u * (v * v * v) * (v * v * v) * v) (2 ^ 252 - 3) = X) (h1 : ¬ X * X * v = u) (h2 : ¬ X * imf * (X * imf) * v = u) (y : F) : v * y * y ≠ u:=by
 intro h
 have hc:=cand3 u v _ rfl;rw [hX] at hc
 have hu : u ≠ 0:=by
  rintro rfl
  apply h1
  rw [hc]
  grind only
 rcases quarter hu h with h3 | h3
 ·apply h1
  rw [hc,h3]
  grind only
 ·apply h2
  rw [h3] at hc;have hi:=imf_sq;generalize imf = i at *;clear h h1 h2 hX h3 hu
  grind only

theorem root_even {u v X : F} (h : X * X * v = u) (ho : ¬ X.val % 2 = 1) : v * X * X = u ∧ X.val % 2 = 0:=by
 refine ⟨?_,by omega⟩;rw [← h]
 grind only
theorem root_odd {u v X : F} (h : X * X * v = u) (ho : X.val % 2 = 1) : v * (0 - X) * (0 - X) = u ∧ (0 - X).val % 2 = 0:=by
 have hne : X ≠ 0:=by
  rintro rfl
  revert ho
  decide
 have e : 0 - X = -X:=by grind only
 refine ⟨?_,?_⟩
 ·rw [← h]
  grind only
 ·rw [e,neg_odd hne]
  omega

theorem Tw.row {w : World} (h : Tw w) {g : Nat} (hg : 2 < g) (cs : Array Value) : Tw (w.setRow g cs) where
 cell:=fun i hi=>by
  have hf : (w.setRow g cs).heap[2]? = w.heap[2]?:=by
   rw [World.setRow];simp only [Array.getElem?_modify];rw [if_neg (by omega)]
  rw [World.cell?_of_block (w:=w) (a:=⟨2,i,none⟩) hf];exact h.cell i hi
 lt:=by rw [size_setRow]; exact h.lt

set_option maxRecDepth 100000 in
set_option maxHeartbeats 4000000 in
theorem elroot_f {a b : List Nat} {u v : F} (hA : EB a u) (hB : EB b v) (w : World) (hT0 : Tw w) :
  Calls Tryz.prog 105 #[.agg (Us a).toArray,.agg (Us b).toArray] w fun e w' =>
   ((∃ r x,EB r x ∧ v ≠ 0 ∧ (v * x * x = u ∧ x.val % 2 = 0) ∧ e = .returned (.tuple #[.agg (Us r).toArray,.bool true])) ∨ ((v = 0 ∨ ∀ x,v * x * x ≠ u) ∧ e = .returned (.tuple #[.agg z5,.bool false]))) ∧ Below w.heap.size w w':=by
 go_enter Tryz.func105,Tryz.ntmps105
 refine wp_seq_k fun K hK=>?_;refine wp_region_lit ?_;refine wpl_box (Us a).toArray rfl rfl rfl ?_;refine wpl_box (Us b).toArray rfl rfl rfl ?_;refine wpl_alloc (zs:=z5) rfl rfl (by kernel_rfl) ?_;refine wpl_assign rfl rfl ?_;refine wpl_nil ?_
 go_simp
 refine hK _ _ ?_;clear hK K
 refine wp_at (fun W=>Blk W w.heap.size 110 (Us a).toArray ∧ Blk W (w.heap.size + 1) 110 (Us b).toArray ∧ Blk W (w.heap.size + 1 + 1) 110 z5 ∧ Below w.heap.size w W)
  ⟨blk3_0 w _ _ _ _,blk3_1 w _ _ _ _,blk3_2 w _ _ _ _,(((Below.refl _ _).alloc (Nat.le_refl _) _).alloc (by simp) _).alloc (by simp; omega) _⟩ ?_
 rintro W ⟨hu,hb,ho,hbe⟩
 have hT:=hT0.below hbe
 -- walk root
 refine wp_seq_k fun K hK=>?_;refine wp_seq_k fun K2 hK2=>?_;refine reg_qF ?_;refine b_el (w.heap.size + 1) hB.len _ rfl rfl rfl (fun _ h=>h.blk hb) ?_;simp only [Act.put,List.setIfInBounds_toArray,List.set_cons_zero,List.set_cons_succ];refine b_build [] z5 rfl rfl rfl built_zero ?_;simp only [Act.put,List.setIfInBounds_toArray,List.set_cons_zero,List.set_cons_succ];refine b_one rfl own_is (fun w1=>is_f hB eb_zero w1) rfl rfl ?_;simp only [Act.put,List.setIfInBounds_toArray,List.set_cons_zero,List.set_cons_succ];refine wpB_nil ?_
 intro W1 hw1
 simp only [Exit.then];refine hK2 _ _ ?_;clear hK2 K2;have hu:=hw1.blk hu;have hb:=hw1.blk hb;have ho:=hw1.blk ho;have hT:=hT.below hw1;have hbe:=below_up hbe hw1;clear hw1
 by_cases hv : v = 0
 ·refine wp_cond (t:=true) (congrArg Value.bool (decide_eq_true hv)) ?_
  rw [if_pos rfl];refine wp_seq_k fun K3 hK3=>?_;refine wp_region_lit ?_;refine wpl_build [] z5 rfl rfl rfl built_zero ?_;simp only [Act.put,List.setIfInBounds_toArray,List.set_cons_zero,List.set_cons_succ];refine wpList_store_row rfl 110 _ _ rfl (w.heap.size + 1 + 1) rfl z5 rfl 110 _ ho (size_el _ rfl) rfl (Us_one _) ?_;refine wpl_assign rfl rfl ?_;refine wpl_nil ?_;simp only [Exit.then,Act.put,List.setIfInBounds_toArray,List.set_cons_zero,List.set_cons_succ];refine hK3 _ _ ?_;refine wp_ret ?_;simp only [Exit.then];refine bodyPost_ret (results_cell_tmp rfl _ _ (w.heap.size + 1 + 1) 110 z5 (0,0) _ (.bool false) rfl rfl (ho.row _) Tryz.underlying110 rfl (size_el _ rfl)) rfl ⟨.inr ⟨.inl hv,rfl⟩,?_⟩;exact below_setRow hbe (by omega) _
 ·refine wp_cond (t:=false) (congrArg Value.bool (decide_eq_false hv)) ?_
  rw [if_neg (by decide)];refine wp_skip ?_;simp only [Exit.then];refine hK _ _ ?_;clear hK K;refine wp_seq_k fun K hK=>?_;refine reg_var 5 6 110 (.tmp 16) z5 rfl rfl rfl rfl rfl rfl rfl (by kernel_rfl) (tail_ok (by kernel_rfl)) (by kernel_rfl) (fun _ _ d _ _ h=>by cases d <;> exact h) (exec_alloc rfl (by kernel_rfl)) ?_;simp only [List.take_succ_cons,List.take_zero];refine b_el (w.heap.size + 1) hB.len _ rfl rfl rfl (fun _ h=>h.blk hb) ?_;simp only [Act.put,List.setIfInBounds_toArray,List.set_cons_zero,List.set_cons_succ];refine b_el (w.heap.size + 1) hB.len _ rfl rfl rfl (fun _ h=>h.blk hb) ?_;simp only [Act.put,List.setIfInBounds_toArray,List.set_cons_zero,List.set_cons_succ];refine b_fe rfl own_elmul (fun w1 _=>elmul_f hB hB w1) rfl rfl ?_
  intro r1 v1
  simp only [Act.put,List.setIfInBounds_toArray,List.set_cons_zero,List.set_cons_succ];refine b_el (w.heap.size + 1) hB.len _ rfl rfl rfl (fun _ h=>h.blk hb) ?_;simp only [Act.put,List.setIfInBounds_toArray,List.set_cons_zero,List.set_cons_succ];refine b_fe rfl own_elmul (fun w1 _=>elmul_f v1 hB w1) rfl rfl ?_
  intro r2 v2
  simp only [Act.put,List.setIfInBounds_toArray,List.set_cons_zero,List.set_cons_succ];refine wpB_nil ⟨(Us r2).toArray,fun _=>rfl,fun _=>rfl,(len_us v2.len).symm,size_el _ (len_us v2.len),Us_one _,fun gthree W1 hgthree hw1 hbthree=>?_⟩;simp only [Exit.then,Act.put,List.setIfInBounds_toArray,List.set_cons_zero,List.set_cons_succ];refine hK _ _ ?_;clear hK K;have hu:=hw1.blk hu;have hb:=hw1.blk hb;have ho:=hw1.blk ho;have hT:=hT.below hw1;have hbe:=below_up hbe hw1;clear hw1;refine wp_seq_k fun K hK=>?_;refine reg_var 12 7 110 (.tmp 28) z5 rfl rfl rfl rfl rfl rfl rfl (by kernel_rfl) (tail_ok (by kernel_rfl)) (by kernel_rfl) (fun _ _ d _ _ h=>by cases d <;> exact h) (exec_alloc rfl (by kernel_rfl)) ?_;simp only [List.take_succ_cons,List.take_zero];refine b_el w.heap.size hA.len _ rfl rfl rfl (fun _ h=>h.blk hu) ?_;simp only [Act.put,List.setIfInBounds_toArray,List.set_cons_zero,List.set_cons_succ];refine b_el gthree v2.len _ rfl rfl rfl (fun _ h=>h.blk hbthree) ?_;simp only [Act.put,List.setIfInBounds_toArray,List.set_cons_zero,List.set_cons_succ];refine b_fe rfl own_elmul (fun w1 _=>elmul_f hA v2 w1) rfl rfl ?_
  intro r3 v3
  simp only [Act.put,List.setIfInBounds_toArray,List.set_cons_zero,List.set_cons_succ];refine b_el w.heap.size hA.len _ rfl rfl rfl (fun _ h=>h.blk hu) ?_;simp only [Act.put,List.setIfInBounds_toArray,List.set_cons_zero,List.set_cons_succ];refine b_el gthree v2.len _ rfl rfl rfl (fun _ h=>h.blk hbthree) ?_;simp only [Act.put,List.setIfInBounds_toArray,List.set_cons_zero,List.set_cons_succ];refine b_fe rfl own_elmul (fun w1 _=>elmul_f hA v2 w1) rfl rfl ?_
  intro r4 v4
  simp only [Act.put,List.setIfInBounds_toArray,List.set_cons_zero,List.set_cons_succ];refine b_el gthree v2.len _ rfl rfl rfl (fun _ h=>h.blk hbthree) ?_;simp only [Act.put,List.setIfInBounds_toArray,List.set_cons_zero,List.set_cons_succ];refine b_fe rfl own_elmul (fun w1 _=>elmul_f v4 v2 w1) rfl rfl ?_
  intro r5 v5
  simp only [Act.put,List.setIfInBounds_toArray,List.set_cons_zero,List.set_cons_succ];refine b_el (w.heap.size + 1) hB.len _ rfl rfl rfl (fun _ h=>h.blk hb) ?_;simp only [Act.put,List.setIfInBounds_toArray,List.set_cons_zero,List.set_cons_succ];refine b_fe rfl own_elmul (fun w1 _=>elmul_f v5 hB w1) rfl rfl ?_
  intro r6 v6
  simp only [Act.put,List.setIfInBounds_toArray,List.set_cons_zero,List.set_cons_succ];refine b_fe rfl own_eighth (fun w1 _=>eighth_f v6 w1) rfl rfl ?_
  intro r7 v7
  simp only [Act.put,List.setIfInBounds_toArray,List.set_cons_zero,List.set_cons_succ];refine b_fe rfl own_elmul (fun w1 _=>elmul_f v3 v7 w1) rfl rfl ?_
  intro r8 v8
  simp only [Act.put,List.setIfInBounds_toArray,List.set_cons_zero,List.set_cons_succ];refine wpB_nil ⟨(Us r8).toArray,fun _=>rfl,fun _=>rfl,(len_us v8.len).symm,size_el _ (len_us v8.len),Us_one _,fun gx W1 hgx hw1 hbx=>?_⟩;simp only [Exit.then,Act.put,List.setIfInBounds_toArray,List.set_cons_zero,List.set_cons_succ];refine hK _ _ ?_;clear hK K;have ne_u:=Nat.ne_of_lt (Nat.lt_of_lt_of_le (hu).lt hgx);have ne_v:=Nat.ne_of_lt (Nat.lt_of_lt_of_le (hb).lt hgx);have ne_three:=Nat.ne_of_lt (Nat.lt_of_lt_of_le (hbthree).lt hgx);have ne_o:=Nat.ne_of_lt (Nat.lt_of_lt_of_le ho.lt hgx);have hb0:=Nat.le_trans hbe.size hgx;have hb1:=Nat.lt_of_lt_of_le hT.lt hgx;have hu:=hw1.blk hu;have hb:=hw1.blk hb;have hbthree:=hw1.blk hbthree;have ho:=hw1.blk ho;have hT:=hT.below hw1;have hbe:=below_up hbe hw1;clear hw1;generalize hX : u * (v * v * v) * fpow (u * (v * v * v) * (v * v * v) * v) (2 ^ 252 - 3) = X at v8;refine wp_seq_k fun K hK=>?_;refine wp_seq_k fun K2 hK2=>?_;refine reg_q (by kernel_rfl) (tail_ok (by kernel_rfl)) (fun _ _ d _ _ h=>by cases d <;> exact h) ?_;refine b_el gx v8.len _ rfl rfl rfl (fun _ h=>h.blk hbx) ?_;simp only [Act.put,List.setIfInBounds_toArray,List.set_cons_zero,List.set_cons_succ];refine b_el gx v8.len _ rfl rfl rfl (fun _ h=>h.blk hbx) ?_;simp only [Act.put,List.setIfInBounds_toArray,List.set_cons_zero,List.set_cons_succ];refine b_fe rfl own_elmul (fun w1 _=>elmul_f v8 v8 w1) rfl rfl ?_
  intro r9 v9
  simp only [Act.put,List.setIfInBounds_toArray,List.set_cons_zero,List.set_cons_succ];refine b_el (w.heap.size + 1) hB.len _ rfl rfl rfl (fun _ h=>h.blk hb) ?_;simp only [Act.put,List.setIfInBounds_toArray,List.set_cons_zero,List.set_cons_succ];refine b_fe rfl own_elmul (fun w1 _=>elmul_f v9 hB w1) rfl rfl ?_
  intro r10 v10
  simp only [Act.put,List.setIfInBounds_toArray,List.set_cons_zero,List.set_cons_succ];refine b_el w.heap.size hA.len _ rfl rfl rfl (fun _ h=>h.blk hu) ?_;simp only [Act.put,List.setIfInBounds_toArray,List.set_cons_zero,List.set_cons_succ];refine b_one rfl own_is (fun w1=>is_f v10 hA w1) rfl rfl ?_;simp only [Act.put,List.setIfInBounds_toArray,List.set_cons_zero,List.set_cons_succ];refine b_not _ rfl rfl rfl ?_;simp only [Act.put,List.setIfInBounds_toArray,List.set_cons_zero,List.set_cons_succ];refine wpB_nil ?_
  intro W1 hw1
  simp only [Exit.then];refine hK2 _ _ ?_;clear hK2 K2;have hu:=hw1.blk hu;have hb:=hw1.blk hb;have hbthree:=hw1.blk hbthree;have hbx:=hw1.blk hbx;have ho:=hw1.blk ho;have hT:=hT.below hw1;have hbe:=below_up hbe hw1;clear hw1
  by_cases h1 : X * X * v = u
  ·refine wp_cond (t:=false) (congrArg Value.bool (by rw [decide_eq_true h1]; rfl)) ?_
   rw [if_neg (by decide)];refine wp_skip ?_;simp only [Exit.then];refine hK _ _ ?_;clear hK K;refine wp_seq_k fun K hK=>?_;refine wp_seq_k fun K2 hK2=>?_;refine reg_q (by kernel_rfl) (tail_ok (by kernel_rfl)) (fun _ _ d _ _ h=>by cases d <;> exact h) ?_;refine b_el gx v8.len _ rfl rfl rfl (fun _ h=>h.blk hbx) ?_;simp only [Act.put,List.setIfInBounds_toArray,List.set_cons_zero,List.set_cons_succ];refine b_el gx v8.len _ rfl rfl rfl (fun _ h=>h.blk hbx) ?_;simp only [Act.put,List.setIfInBounds_toArray,List.set_cons_zero,List.set_cons_succ];refine b_fe rfl own_elmul (fun w1 _=>elmul_f v8 v8 w1) rfl rfl ?_
   intro r11 v11
   simp only [Act.put,List.setIfInBounds_toArray,List.set_cons_zero,List.set_cons_succ];refine b_el (w.heap.size + 1) hB.len _ rfl rfl rfl (fun _ h=>h.blk hb) ?_;simp only [Act.put,List.setIfInBounds_toArray,List.set_cons_zero,List.set_cons_succ];refine b_fe rfl own_elmul (fun w1 _=>elmul_f v11 hB w1) rfl rfl ?_
   intro r12 v12
   simp only [Act.put,List.setIfInBounds_toArray,List.set_cons_zero,List.set_cons_succ];refine b_el w.heap.size hA.len _ rfl rfl rfl (fun _ h=>h.blk hu) ?_;simp only [Act.put,List.setIfInBounds_toArray,List.set_cons_zero,List.set_cons_succ];refine b_one rfl own_is (fun w1=>is_f v12 hA w1) rfl rfl ?_;simp only [Act.put,List.setIfInBounds_toArray,List.set_cons_zero,List.set_cons_succ];refine b_not _ rfl rfl rfl ?_;simp only [Act.put,List.setIfInBounds_toArray,List.set_cons_zero,List.set_cons_succ];refine wpB_nil ?_
   intro W1 hw1
   simp only [Exit.then];refine hK2 _ _ ?_;clear hK2 K2;have hu:=hw1.blk hu;have hb:=hw1.blk hb;have hbthree:=hw1.blk hbthree;have hbx:=hw1.blk hbx;have ho:=hw1.blk ho;have hT:=hT.below hw1;have hbe:=below_up hbe hw1;clear hw1;refine wp_cond (t:=false) (congrArg Value.bool (by rw [decide_eq_true h1]; rfl)) ?_;rw [if_neg (by decide)];refine wp_skip ?_;simp only [Exit.then];refine hK _ _ ?_;clear hK K;refine wp_seq_k fun K hK=>?_;refine wp_seq_k fun K2 hK2=>?_;refine reg_qF ?_;refine b_el gx v8.len _ rfl rfl rfl (fun _ h=>h.blk hbx) ?_;simp only [Act.put,List.setIfInBounds_toArray,List.set_cons_zero,List.set_cons_succ];refine b_one rfl own_odd (fun w1=>odd_f v8 w1) rfl rfl ?_;simp only [Act.put,List.setIfInBounds_toArray,List.set_cons_zero,List.set_cons_succ];refine wpB_nil ?_
   intro W1 hw1
   simp only [Exit.then];refine hK2 _ _ ?_;clear hK2 K2;have hu:=hw1.blk hu;have hb:=hw1.blk hb;have hbthree:=hw1.blk hbthree;have hbx:=hw1.blk hbx;have ho:=hw1.blk ho;have hT:=hT.below hw1;have hbe:=below_up hbe hw1;clear hw1
   by_cases ho2 : (X).val % 2 = 1
   ·refine wp_cond (t:=true) (congrArg Value.bool (decide_eq_true ho2)) ?_
    rw [if_pos rfl];refine reg_setF 3 (.tmp 7) 110 (.tmp 54) rfl rfl rfl rfl ?_;simp only [List.take_succ_cons,List.take_zero];refine b_build [] z5 rfl rfl rfl built_zero ?_;simp only [Act.put,List.setIfInBounds_toArray,List.set_cons_zero,List.set_cons_succ];refine b_el gx v8.len _ rfl rfl rfl (fun _ h=>h.blk hbx) ?_;simp only [Act.put,List.setIfInBounds_toArray,List.set_cons_zero,List.set_cons_succ];refine b_fe rfl own_elsub (fun w1 hw=>elsub_f eb_zero v8 w1 (hT.below hw)) rfl rfl ?_
    intro r13 v13
    simp only [Act.put,List.setIfInBounds_toArray,List.set_cons_zero,List.set_cons_succ];refine wpB_nil ⟨gx,_,_,rfl,rfl,hbx,(len_us v8.len).trans (len_us v13.len).symm,size_el _ (len_us v13.len),Us_one _,fun W1 hw1=>?_⟩;simp only [Exit.then];refine hK _ _ ?_;clear hK K;have hu:=(hw1.blk hu).rowFar ne_u (g':=gx) (Us r13).toArray;have hb:=(hw1.blk hb).rowFar ne_v (g':=gx) (Us r13).toArray;have hbthree:=(hw1.blk hbthree).rowFar ne_three (g':=gx) (Us r13).toArray;have ho:=(hw1.blk ho).rowFar ne_o (g':=gx) (Us r13).toArray;have hbx:=(hw1.blk hbx).row (Us r13).toArray;have hT:=(hT.below hw1).row hb1 (g:=gx) (Us r13).toArray;have hbe:=below_setRow (below_up hbe hw1) hb0 (Us r13).toArray;clear hw1;generalize World.setRow _ gx (Us r13).toArray = W2 at *;refine wp_seq_k fun K hK=>?_;refine wp_region_lit ?_;refine wpList_load_row rfl 110 _ rfl gx rfl 110 (Us r13).toArray (0,0) _ hbx Tryz.underlying110 rfl (size_el _ (len_us v13.len)) ?_;simp only [Act.put,List.setIfInBounds_toArray,List.set_cons_zero,List.set_cons_succ];refine wpList_store_row rfl 110 _ _ rfl (w.heap.size + 1 + 1) rfl (Us r13).toArray rfl 110 _ ho (size_el _ (len_us v13.len)) (len_us v13.len).symm (Us_one _) ?_;refine wpl_assign rfl rfl ?_;refine wpl_nil ?_;simp only [Exit.then,Act.put,List.setIfInBounds_toArray,List.set_cons_zero,List.set_cons_succ];refine hK _ _ ?_;clear hK K;refine wp_ret ?_;refine bodyPost_ret (results_cell_tmp rfl _ _ (w.heap.size + 1 + 1) 110 (Us r13).toArray (0,0) _ (.bool true) rfl rfl (ho.row _) Tryz.underlying110 rfl (size_el _ (len_us v13.len))) rfl ⟨.inl ⟨r13,_,v13,hv,root_odd h1 ho2,rfl⟩,?_⟩;exact below_setRow hbe (by omega) _
   ·refine wp_cond (t:=false) (congrArg Value.bool (decide_eq_false ho2)) ?_
    rw [if_neg (by decide)];refine wp_skip ?_;simp only [Exit.then];refine hK _ _ ?_;clear hK K;refine wp_seq_k fun K hK=>?_;refine wp_region_lit ?_;refine wpList_load_row rfl 110 _ rfl gx rfl 110 (Us r8).toArray (0,0) _ hbx Tryz.underlying110 rfl (size_el _ (len_us v8.len)) ?_;simp only [Act.put,List.setIfInBounds_toArray,List.set_cons_zero,List.set_cons_succ];refine wpList_store_row rfl 110 _ _ rfl (w.heap.size + 1 + 1) rfl (Us r8).toArray rfl 110 _ ho (size_el _ (len_us v8.len)) (len_us v8.len).symm (Us_one _) ?_;refine wpl_assign rfl rfl ?_;refine wpl_nil ?_;simp only [Exit.then,Act.put,List.setIfInBounds_toArray,List.set_cons_zero,List.set_cons_succ];refine hK _ _ ?_;clear hK K;refine wp_ret ?_;refine bodyPost_ret (results_cell_tmp rfl _ _ (w.heap.size + 1 + 1) 110 (Us r8).toArray (0,0) _ (.bool true) rfl rfl (ho.row _) Tryz.underlying110 rfl (size_el _ (len_us v8.len))) rfl ⟨.inl ⟨r8,_,v8,hv,root_even h1 ho2,rfl⟩,?_⟩;exact below_setRow hbe (by omega) _
  ·refine wp_cond (t:=true) (congrArg Value.bool (by rw [decide_eq_false h1]; rfl)) ?_
   rw [if_pos rfl];refine reg_setF 4 (.tmp 7) 110 (.tmp 40) rfl rfl rfl rfl ?_;simp only [List.take_succ_cons,List.take_zero];refine b_el gx v8.len _ rfl rfl rfl (fun _ h=>h.blk hbx) ?_;simp only [Act.put,List.setIfInBounds_toArray,List.set_cons_zero,List.set_cons_succ];refine b_build _ _ rfl rfl rfl (built_u5 _ _ _ _ _) ?_;simp only [Act.put,List.setIfInBounds_toArray,List.set_cons_zero,List.set_cons_succ];refine b_build _ _ rfl rfl rfl (built_el _ _ _ _ _) ?_;simp only [Act.put,List.setIfInBounds_toArray,List.set_cons_zero,List.set_cons_succ];refine b_fe rfl own_elmul (fun w1 _=>elmul_f v8 eb_im w1) rfl rfl ?_
   intro r11 v11
   simp only [Act.put,List.setIfInBounds_toArray,List.set_cons_zero,List.set_cons_succ];refine wpB_nil ⟨gx,_,_,rfl,rfl,hbx,(len_us v8.len).trans (len_us v11.len).symm,size_el _ (len_us v11.len),Us_one _,fun W1 hw1=>?_⟩;simp only [Exit.then];refine hK _ _ ?_;clear hK K;have hu:=(hw1.blk hu).rowFar ne_u (g':=gx) (Us r11).toArray;have hb:=(hw1.blk hb).rowFar ne_v (g':=gx) (Us r11).toArray;have hbthree:=(hw1.blk hbthree).rowFar ne_three (g':=gx) (Us r11).toArray;have ho:=(hw1.blk ho).rowFar ne_o (g':=gx) (Us r11).toArray;have hbx:=(hw1.blk hbx).row (Us r11).toArray;have hT:=(hT.below hw1).row hb1 (g:=gx) (Us r11).toArray;have hbe:=below_setRow (below_up hbe hw1) hb0 (Us r11).toArray;clear hw1;generalize World.setRow _ gx (Us r11).toArray = W2 at *;refine wp_seq_k fun K hK=>?_;refine wp_seq_k fun K2 hK2=>?_;refine reg_q (by kernel_rfl) (tail_ok (by kernel_rfl)) (fun _ _ d _ _ h=>by cases d <;> exact h) ?_;refine b_el gx v11.len _ rfl rfl rfl (fun _ h=>h.blk hbx) ?_;simp only [Act.put,List.setIfInBounds_toArray,List.set_cons_zero,List.set_cons_succ];refine b_el gx v11.len _ rfl rfl rfl (fun _ h=>h.blk hbx) ?_;simp only [Act.put,List.setIfInBounds_toArray,List.set_cons_zero,List.set_cons_succ];refine b_fe rfl own_elmul (fun w1 _=>elmul_f v11 v11 w1) rfl rfl ?_
   intro r12 v12
   simp only [Act.put,List.setIfInBounds_toArray,List.set_cons_zero,List.set_cons_succ];refine b_el (w.heap.size + 1) hB.len _ rfl rfl rfl (fun _ h=>h.blk hb) ?_;simp only [Act.put,List.setIfInBounds_toArray,List.set_cons_zero,List.set_cons_succ];refine b_fe rfl own_elmul (fun w1 _=>elmul_f v12 hB w1) rfl rfl ?_
   intro r13 v13
   simp only [Act.put,List.setIfInBounds_toArray,List.set_cons_zero,List.set_cons_succ];refine b_el w.heap.size hA.len _ rfl rfl rfl (fun _ h=>h.blk hu) ?_;simp only [Act.put,List.setIfInBounds_toArray,List.set_cons_zero,List.set_cons_succ];refine b_one rfl own_is (fun w1=>is_f v13 hA w1) rfl rfl ?_;simp only [Act.put,List.setIfInBounds_toArray,List.set_cons_zero,List.set_cons_succ];refine b_not _ rfl rfl rfl ?_;simp only [Act.put,List.setIfInBounds_toArray,List.set_cons_zero,List.set_cons_succ];refine wpB_nil ?_
   intro W1 hw1
   simp only [Exit.then];refine hK2 _ _ ?_;clear hK2 K2;have hu:=hw1.blk hu;have hb:=hw1.blk hb;have hbthree:=hw1.blk hbthree;have hbx:=hw1.blk hbx;have ho:=hw1.blk ho;have hT:=hT.below hw1;have hbe:=below_up hbe hw1;clear hw1
   by_cases h2 : (X * imf) * ((X * imf)) * v = u
   ·refine wp_cond (t:=false) (congrArg Value.bool (by rw [decide_eq_true h2]; rfl)) ?_
    rw [if_neg (by decide)];refine wp_skip ?_;simp only [Exit.then];refine hK _ _ ?_;clear hK K;refine wp_seq_k fun K hK=>?_;refine wp_seq_k fun K2 hK2=>?_;refine reg_qF ?_;refine b_el gx v11.len _ rfl rfl rfl (fun _ h=>h.blk hbx) ?_;simp only [Act.put,List.setIfInBounds_toArray,List.set_cons_zero,List.set_cons_succ];refine b_one rfl own_odd (fun w1=>odd_f v11 w1) rfl rfl ?_;simp only [Act.put,List.setIfInBounds_toArray,List.set_cons_zero,List.set_cons_succ];refine wpB_nil ?_
    intro W1 hw1
    simp only [Exit.then];refine hK2 _ _ ?_;clear hK2 K2;have hu:=hw1.blk hu;have hb:=hw1.blk hb;have hbthree:=hw1.blk hbthree;have hbx:=hw1.blk hbx;have ho:=hw1.blk ho;have hT:=hT.below hw1;have hbe:=below_up hbe hw1;clear hw1
    by_cases ho2 : ((X * imf)).val % 2 = 1
    ·refine wp_cond (t:=true) (congrArg Value.bool (decide_eq_true ho2)) ?_
     rw [if_pos rfl];refine reg_setF 3 (.tmp 7) 110 (.tmp 54) rfl rfl rfl rfl ?_;simp only [List.take_succ_cons,List.take_zero];refine b_build [] z5 rfl rfl rfl built_zero ?_;simp only [Act.put,List.setIfInBounds_toArray,List.set_cons_zero,List.set_cons_succ];refine b_el gx v11.len _ rfl rfl rfl (fun _ h=>h.blk hbx) ?_;simp only [Act.put,List.setIfInBounds_toArray,List.set_cons_zero,List.set_cons_succ];refine b_fe rfl own_elsub (fun w1 hw=>elsub_f eb_zero v11 w1 (hT.below hw)) rfl rfl ?_
     intro r14 v14
     simp only [Act.put,List.setIfInBounds_toArray,List.set_cons_zero,List.set_cons_succ];refine wpB_nil ⟨gx,_,_,rfl,rfl,hbx,(len_us v11.len).trans (len_us v14.len).symm,size_el _ (len_us v14.len),Us_one _,fun W1 hw1=>?_⟩;simp only [Exit.then];refine hK _ _ ?_;clear hK K;have hu:=(hw1.blk hu).rowFar ne_u (g':=gx) (Us r14).toArray;have hb:=(hw1.blk hb).rowFar ne_v (g':=gx) (Us r14).toArray;have hbthree:=(hw1.blk hbthree).rowFar ne_three (g':=gx) (Us r14).toArray;have ho:=(hw1.blk ho).rowFar ne_o (g':=gx) (Us r14).toArray;have hbx:=(hw1.blk hbx).row (Us r14).toArray;have hT:=(hT.below hw1).row hb1 (g:=gx) (Us r14).toArray;have hbe:=below_setRow (below_up hbe hw1) hb0 (Us r14).toArray;clear hw1;generalize World.setRow _ gx (Us r14).toArray = W2 at *;refine wp_seq_k fun K hK=>?_;refine wp_region_lit ?_;refine wpList_load_row rfl 110 _ rfl gx rfl 110 (Us r14).toArray (0,0) _ hbx Tryz.underlying110 rfl (size_el _ (len_us v14.len)) ?_;simp only [Act.put,List.setIfInBounds_toArray,List.set_cons_zero,List.set_cons_succ];refine wpList_store_row rfl 110 _ _ rfl (w.heap.size + 1 + 1) rfl (Us r14).toArray rfl 110 _ ho (size_el _ (len_us v14.len)) (len_us v14.len).symm (Us_one _) ?_;refine wpl_assign rfl rfl ?_;refine wpl_nil ?_;simp only [Exit.then,Act.put,List.setIfInBounds_toArray,List.set_cons_zero,List.set_cons_succ];refine hK _ _ ?_;clear hK K;refine wp_ret ?_;refine bodyPost_ret (results_cell_tmp rfl _ _ (w.heap.size + 1 + 1) 110 (Us r14).toArray (0,0) _ (.bool true) rfl rfl (ho.row _) Tryz.underlying110 rfl (size_el _ (len_us v14.len))) rfl ⟨.inl ⟨r14,_,v14,hv,root_odd h2 ho2,rfl⟩,?_⟩;exact below_setRow hbe (by omega) _
    ·refine wp_cond (t:=false) (congrArg Value.bool (decide_eq_false ho2)) ?_
     rw [if_neg (by decide)];refine wp_skip ?_;simp only [Exit.then];refine hK _ _ ?_;clear hK K;refine wp_seq_k fun K hK=>?_;refine wp_region_lit ?_;refine wpList_load_row rfl 110 _ rfl gx rfl 110 (Us r11).toArray (0,0) _ hbx Tryz.underlying110 rfl (size_el _ (len_us v11.len)) ?_;simp only [Act.put,List.setIfInBounds_toArray,List.set_cons_zero,List.set_cons_succ];refine wpList_store_row rfl 110 _ _ rfl (w.heap.size + 1 + 1) rfl (Us r11).toArray rfl 110 _ ho (size_el _ (len_us v11.len)) (len_us v11.len).symm (Us_one _) ?_;refine wpl_assign rfl rfl ?_;refine wpl_nil ?_;simp only [Exit.then,Act.put,List.setIfInBounds_toArray,List.set_cons_zero,List.set_cons_succ];refine hK _ _ ?_;clear hK K;refine wp_ret ?_;refine bodyPost_ret (results_cell_tmp rfl _ _ (w.heap.size + 1 + 1) 110 (Us r11).toArray (0,0) _ (.bool true) rfl rfl (ho.row _) Tryz.underlying110 rfl (size_el _ (len_us v11.len))) rfl ⟨.inl ⟨r11,_,v11,hv,root_even h2 ho2,rfl⟩,?_⟩;exact below_setRow hbe (by omega) _
   ·refine wp_cond (t:=true) (congrArg Value.bool (by rw [decide_eq_false h2]; rfl)) ?_
    rw [if_pos rfl];refine wp_seq_k fun K3 hK3=>?_;refine wp_region_lit ?_;refine wpl_build [] z5 rfl rfl rfl built_zero ?_;simp only [Act.put,List.setIfInBounds_toArray,List.set_cons_zero,List.set_cons_succ];refine wpList_store_row rfl 110 _ _ rfl (w.heap.size + 1 + 1) rfl z5 rfl 110 _ ho (size_el _ rfl) rfl (Us_one _) ?_;refine wpl_assign rfl rfl ?_;refine wpl_nil ?_;simp only [Exit.then,Act.put,List.setIfInBounds_toArray,List.set_cons_zero,List.set_cons_succ];refine hK3 _ _ ?_;refine wp_ret ?_;simp only [Exit.then];refine bodyPost_ret (results_cell_tmp rfl _ _ (w.heap.size + 1 + 1) 110 z5 (0,0) _ (.bool false) rfl rfl (ho.row _) Tryz.underlying110 rfl (size_el _ rfl)) rfl ⟨.inr ⟨.inr fun x=>root_none hX h1 h2 x,rfl⟩,?_⟩;exact below_setRow hbe (by omega) _
 -- end root
end Go.Proofs.YtlcbhbahchiofaaGreatDoor
/-
  PLAIN NUMBERS: the program's formulas for sums and doublings of points; points that are small. No program is imported.
-/
namespace Nums
namespace Ed
section
variable {n : Nat} [NeZero n] {d : Fin n}

theorem Rep.t_eq (hn : Prime n) {x y z t : Fin n} {P : Pt n} (r : Rep x y z P) (ht : t * z = x * y) : t = P.x * P.y * z:=by
 refine cancel hn r.z ?_;rw [ht,r.x,r.y]
 grind only

theorem plus_e (px py qx qy z1 z2 : Fin n) : (py * z1 + px * z1) * (qy * z2 + qx * z2) - (py * z1 - px * z1) * (qy * z2 - qx * z2) = (px * qy + py * qx) * (2 * (z1 * z2)):=by grind only
theorem plus_h (px py qx qy z1 z2 : Fin n) : (py * z1 + px * z1) * (qy * z2 + qx * z2) + (py * z1 - px * z1) * (qy * z2 - qx * z2) = (py * qy + px * qx) * (2 * (z1 * z2)):=by grind only
theorem plus_t (px py qx qy z1 z2 d : Fin n) : px * py * z1 * ((qx * qy * z2 + qx * qy * z2) * d) = d * px * qx * py * qy * (2 * (z1 * z2)):=by grind only
theorem plus_z (z1 z2 : Fin n) : z1 * (z2 + z2) = 2 * (z1 * z2):=by grind only
theorem fac_p (k u : Fin n) : u + k * u = (1 + k) * u:=by grind only
theorem fac_m (k u : Fin n) : u - k * u = (1 - k) * u:=by grind only
theorem Rep.efgh (g : Good n d) {P Q : Pt n} (hP : On d P) (hQ : On d Q) {e f gg h u : Fin n} (hu : u ≠ 0) (he : e = (P.x * Q.y + P.y * Q.x) * u) (hf : f = (1 - kk d P Q) * u) (hg : gg = (1 + kk d P Q) * u) (hh : h = (P.y * Q.y + P.x * Q.x) * u) :
  Rep (e * f) (gg * h) (f * gg) (Ed.add d P Q):=by
 have hx:=add_x g hP hQ;have hy:=add_y g hP hQ;have n1:=plus_ne g hP hQ;have n2:=minus_ne g hP hQ;subst he hf hg hh;refine ⟨mul_ne g.pr (mul_ne g.pr n2 hu) (mul_ne g.pr n1 hu),?_,?_⟩
 ·rw [← hx]
  grind only
 ·rw [← hy]
  grind only

theorem Rep.plus (g : Good n d) {P Q : Pt n} (hP : On d P) (hQ : On d Q) {x1 y1 z1 t1 x2 y2 z2 t2 : Fin n} (r : Rep x1 y1 z1 P) (h1 : t1 * z1 = x1 * y1) (s : Rep x2 y2 z2 Q) (h2 : t2 * z2 = x2 * y2) {un li z t e f gg h : Fin n}
  (hun : un = (y1 - x1) * (y2 - x2)) (hli : li = (y1 + x1) * (y2 + x2)) (hz : z = z1 * (z2 + z2)) (ht : t = t1 * ((t2 + t2) * d)) (he : e = li - un) (hf : f = z - t) (hg : gg = z + t) (hh : h = li + un) :
  Rep (e * f) (gg * h) (f * gg) (Ed.add d P Q) ∧ e * h * (f * gg) = e * f * (gg * h):=by
 have e1:=r.t_eq g.pr h1;have e2:=s.t_eq g.pr h2;have hu : (2 : Fin n) * (z1 * z2) ≠ 0:=mul_ne g.pr g.two (mul_ne g.pr r.z s.z);refine ⟨Rep.efgh g hP hQ hu ?_ ?_ ?_ ?_,by grind only⟩
 ·rw [he,hli,hun,r.x,r.y,s.x,s.y,plus_e]
 ·rw [hf,hz,ht,e1,e2,plus_t,plus_z,← fac_m]
  rfl
 ·rw [hg,hz,ht,e1,e2,plus_t,plus_z,← fac_p]
  rfl
 ·rw [hh,hli,hun,r.x,r.y,s.x,s.y,plus_h]

theorem dbl_e (px py z : Fin n) : px * z * (py * z) + px * z * (py * z) = (px * py + py * px) * (z * z):=by grind only
theorem dbl_g (px py z : Fin n) : py * z * (py * z) - px * z * (px * z) = (py * py - px * px) * (z * z):=by grind only
theorem dbl_h (px py z : Fin n) : py * z * (py * z) + px * z * (px * z) = (py * py + px * px) * (z * z):=by grind only
theorem dbl_f (k u : Fin n) : u + u - (1 + k) * u = (1 - k) * u:=by grind only
theorem on_kk {P : Pt n} (hP : On d P) : P.y * P.y - P.x * P.x = 1 + kk d P P:=by
 have h : P.y*P.y - P.x*P.x = 1 + d*P.x*P.x*P.y*P.y:=hP;rw [h]
 rfl
theorem Rep.dbl (g : Good n d) {P : Pt n} (hP : On d P) {x y z : Fin n} (r : Rep x y z P) {xx yy zz xy e gg h f : Fin n} (hxx : xx = x * x) (hyy : yy = y * y) (hzz : zz = z * z) (hxy : xy = x * y)
  (he : e = xy + xy) (hg : gg = yy - xx) (hh : h = yy + xx) (hf : f = zz + zz - gg) : Rep (e * f) (gg * h) (f * gg) (Ed.add d P P) ∧ e * h * (f * gg) = e * f * (gg * h):=by
 have hu : z * z ≠ 0:=mul_ne g.pr r.z r.z
 have hgg : gg = (1 + kk d P P) * (z * z):=by rw [hg,hyy,hxx,r.x,r.y,dbl_g,on_kk hP]
 refine ⟨Rep.efgh g hP hP hu ?_ ?_ hgg ?_,by grind only⟩
 ·rw [he,hxy,r.x,r.y,dbl_e]
 ·rw [hf,hzz,hgg,dbl_f]
 ·rw [hh,hyy,hxx,r.x,r.y,dbl_h]

theorem Rep.one (hn : Prime n) (x y : Fin n) : Rep x y 1 ⟨x,y⟩:=⟨fun h=>ne_one hn h.symm,by show x = x * 1; grind only,by show y = y * 1; grind only⟩
theorem y_one (g : Good n d) {P : Pt n} (hP : On d P) (hy : P.y = 1) : P = zero:=by
 have h : P.y*P.y - P.x*P.x = 1 + d*P.x*P.x*P.y*P.y:=hP;rw [hy] at h
 have h2 : P.x * P.x * (d + 1) = 0:=by grind only
 have hd : d + 1 ≠ 0:=fun h0=>by
  obtain ⟨i,hi⟩:=g.i;refine g.d i ?_;rw [hi]
  grind only
 have hx : P.x = 0:=by
  by_cases hx : P.x = 0
  ·exact hx
  ·exact absurd h2 (mul_ne g.pr (mul_ne g.pr hx hx) hd)
 cases P
 simp only at hx hy;rw [hx,hy]
 rfl
theorem Rep.y_iff (g : Good n d) {P : Pt n} (hP : On d P) {x y z : Fin n} (r : Rep x y z P) : y = z ↔ P = Ed.zero:=by
 constructor
 ·intro h
  refine y_one g hP (cancel g.pr r.z ?_);rw [← r.y,h]
  grind only
 ·rintro rfl
  rw [r.y]
  show 1 * z = z
  grind only
end
end Ed
end Nums
/-
  THE PROGRAM'S POINTS: what their cells are; '==' of them; the steps of a walk at numbers and points, over frames by what is known of them.
-/
namespace Go.Proofs.YtlcbhbahchiofaaGreatDoor
open Go.RowKit Go.IntWalk Nums

def pc (X Y Z T : List Nat) : List Nat:=X ++ (Y ++ (Z ++ T))
def zl : List Nat:=[0,0,0,0,0]
def pz : List Nat:=pc zl zl zl zl
theorem Us_app (a b : List Nat) : Us (a ++ b) = Us a ++ Us b:=by simp [Us]
theorem Us_pc (X Y Z T : List Nat) : Us (pc X Y Z T) = Us X ++ (Us Y ++ (Us Z ++ Us T)):=by simp [pc,Us]
theorem pc_len {X Y Z T : List Nat} (hX : X.length = 5) (hY : Y.length = 5) (hZ : Z.length = 5) (hT : T.length = 5) : (pc X Y Z T).length = 20:=by simp [pc,hX,hY,hZ,hT]
theorem Us_oneA (l : List Nat) : ∀ v ∈ (Us l).toArray.toList,v.oneCell' = true:=fun v hv=>Us_one l v (by simpa using hv)
theorem us_size {l : List Nat} {n : Nat} (h : l.length = n) : (Us l).toArray.size = n:=by rw [List.size_toArray,Us_len,h]

theorem size_cp {n : Nat} (h : n = 20) : (Tryz.prog.info? 112).map (·.size) = some n:=by
 rw [h]
 kernel_rfl
theorem size_ad {n : Nat} (h : n = 20) : (Tryz.prog.info? 130).map (·.size) = some n:=by
 rw [h]
 kernel_rfl
theorem size_e {l : List Nat} (h : l.length = 5) : (Tryz.prog.info? 110).map (·.size) = some (Us l).length:=by
 rw [Us_len,h]
 kernel_rfl

theorem zl_len : zl.length = 5:=rfl
theorem pz_len : pz.length = 20:=rfl
def nvE (t : Nat) : NV:=⟨t,110,z5⟩
def nvA (t : Nat) : NV:=⟨t,130,(Us pz).toArray⟩

section
variable {w : World} {g t : Nat} {X Y Z T : List Nat}
theorem Blk.mid5 {w : World} {g t off : Nat} {A V Z : List Value} (h : Blk w g t (A ++ (V ++ Z)).toArray) (ho : off = A.length) : w.rangeAt g off V:=fun j v hv=>by
 rw [h.cell (off + j),ho];have hj:=(List.getElem?_eq_some_iff.1 hv).1;simp only [List.getElem?_toArray];rw [List.getElem?_append_right (by omega),Nat.add_sub_cancel_left,List.getElem?_append_left hj];exact hv
theorem Blk.cx (h : Blk w g t (Us (pc X Y Z T)).toArray) : w.rangeAt g 0 (Us X):=by
 rw [Us_pc] at h;exact Blk.mid5 (A:=[]) h rfl
theorem Blk.cy (h : Blk w g t (Us (pc X Y Z T)).toArray) (hX : X.length = 5) : w.rangeAt g 5 (Us Y):=by
 rw [Us_pc] at h;exact Blk.mid5 (A:=Us X) h (by rw [Us_len,hX])
theorem Blk.cz (h : Blk w g t (Us (pc X Y Z T)).toArray) (hX : X.length = 5) (hY : Y.length = 5) : w.rangeAt g 10 (Us Z):=by
 rw [Us_pc,← List.append_assoc] at h;exact Blk.mid5 h (by simp [Us_len,hX,hY])
theorem Blk.ct (h : Blk w g t (Us (pc X Y Z T)).toArray) (hX : X.length = 5) (hY : Y.length = 5) (hZ : Z.length = 5) : w.rangeAt g 15 (Us T):=by
 rw [Us_pc,← List.append_assoc,← List.append_assoc] at h
 have h2 : Blk w g t (Us X ++ Us Y ++ Us Z ++ (Us T ++ [])).toArray:=by rw [List.append_nil]; exact h
 exact Blk.mid5 h2 (by simp [Us_len,hX,hY,hZ])
end

/-! ### Fields -/
theorem cpf0 (b : Nat) (w : World) : (Instr.fieldAt 112 (.pointer (some ⟨b,0,none⟩)) 0).run Tryz.prog w = .ok (.pointer (some ⟨b,0,none⟩)) w:=by go_simp
theorem cpf1 (b : Nat) (w : World) : (Instr.fieldAt 112 (.pointer (some ⟨b,0,none⟩)) 1).run Tryz.prog w = .ok (.pointer (some ⟨b,5,none⟩)) w:=by go_simp
theorem cpf2 (b : Nat) (w : World) : (Instr.fieldAt 112 (.pointer (some ⟨b,0,none⟩)) 2).run Tryz.prog w = .ok (.pointer (some ⟨b,10,none⟩)) w:=by go_simp
theorem cpf3 (b : Nat) (w : World) : (Instr.fieldAt 112 (.pointer (some ⟨b,0,none⟩)) 3).run Tryz.prog w = .ok (.pointer (some ⟨b,15,none⟩)) w:=by go_simp
theorem caf0 (b : Nat) (w : World) : (Instr.fieldAt 130 (.pointer (some ⟨b,0,none⟩)) 0).run Tryz.prog w = .ok (.pointer (some ⟨b,0,none⟩)) w:=by go_simp
theorem caf1 (b : Nat) (w : World) : (Instr.fieldAt 130 (.pointer (some ⟨b,0,none⟩)) 1).run Tryz.prog w = .ok (.pointer (some ⟨b,5,none⟩)) w:=by go_simp
theorem caf2 (b : Nat) (w : World) : (Instr.fieldAt 130 (.pointer (some ⟨b,0,none⟩)) 2).run Tryz.prog w = .ok (.pointer (some ⟨b,10,none⟩)) w:=by go_simp
theorem caf3 (b : Nat) (w : World) : (Instr.fieldAt 130 (.pointer (some ⟨b,0,none⟩)) 3).run Tryz.prog w = .ok (.pointer (some ⟨b,15,none⟩)) w:=by go_simp

/-! ### Built -/
theorem builtP (parts : List (Nat × Value)) : Tryz.prog.built 112 parts = Instr.fill (#[(0,5),(5,5),(10,5),(15,5)][·]?) (Us zl ++ (Us zl ++ (Us zl ++ Us zl))).toArray parts :=
 built_of (t:=112) (z:=(Us pz).toArray) (pl:=[(0,5),(5,5),(10,5),(15,5)]) (by kernel_rfl)
theorem builtA (parts : List (Nat × Value)) : Tryz.prog.built 130 parts = Instr.fill (#[(0,5),(5,5),(10,5),(15,5)][·]?) (Us zl ++ (Us zl ++ (Us zl ++ Us zl))).toArray parts :=
 built_of (t:=130) (z:=(Us pz).toArray) (pl:=[(0,5),(5,5),(10,5),(15,5)]) (by kernel_rfl)
theorem fill0 {X : List Nat} (hX : X.length = 5) (rest : List (Nat × Value)) : Instr.fill (#[(0,5),(5,5),(10,5),(15,5)][·]?) (Us zl ++ (Us zl ++ (Us zl ++ Us zl))).toArray ((0,.agg (Us X).toArray) :: rest) = Instr.fill (#[(0,5),(5,5),(10,5),(15,5)][·]?) (Us X ++ (Us zl ++ (Us zl ++ Us zl))).toArray rest:=by
 have h:=fill_put (#[(0,5),(5,5),(10,5),(15,5)][·]?) 0 5 [] (Us zl) (Us zl ++ (Us zl ++ Us zl)) (Us X) rest rfl (by rw [Us_len,hX]) rfl;rw [List.nil_append,List.nil_append] at h;exact h
section
variable {X Y Z T : List Nat} (hX : X.length = 5) (hY : Y.length = 5) (hZ : Z.length = 5) (hT : T.length = 5)
include hX hY hZ
theorem fill3 : Instr.fill (#[(0,5),(5,5),(10,5),(15,5)][·]?) (Us zl ++ (Us zl ++ (Us zl ++ Us zl))).toArray [(0,.agg (Us X).toArray),(1,.agg (Us Y).toArray),(2,.agg (Us Z).toArray)] = some (Us X ++ (Us Y ++ (Us Z ++ Us zl))).toArray:=by
 rw [fill0 hX,fill_put _ 1 5 (Us X) (Us zl) (Us zl ++ Us zl) (Us Y) _ (by rw [Us_len,hX]; rfl) (by rw [Us_len,hY]) rfl]
 have e : Us X ++ (Us Y ++ (Us zl ++ Us zl)) = (Us X ++ Us Y) ++ (Us zl ++ Us zl):=by rw [List.append_assoc]
 rw [e,fill_put _ 2 5 (Us X ++ Us Y) (Us zl) (Us zl) (Us Z) _ (by simp [Us_len,hX,hY]) (by rw [Us_len,hZ]) rfl,List.append_assoc]
 rfl
include hT
theorem fill4 : Instr.fill (#[(0,5),(5,5),(10,5),(15,5)][·]?) (Us zl ++ (Us zl ++ (Us zl ++ Us zl))).toArray [(0,.agg (Us X).toArray),(1,.agg (Us Y).toArray),(2,.agg (Us Z).toArray),(3,.agg (Us T).toArray)] = some (Us (pc X Y Z T)).toArray:=by
 rw [fill0 hX,fill_put _ 1 5 (Us X) (Us zl) (Us zl ++ Us zl) (Us Y) _ (by rw [Us_len,hX]; rfl) (by rw [Us_len,hY]) rfl]
 have e : Us X ++ (Us Y ++ (Us zl ++ Us zl)) = (Us X ++ Us Y) ++ (Us zl ++ Us zl):=by rw [List.append_assoc]
 rw [e,fill_put _ 2 5 (Us X ++ Us Y) (Us zl) (Us zl) (Us Z) _ (by simp [Us_len,hX,hY]) (by rw [Us_len,hZ]) rfl]
 have e2 : Us X ++ Us Y ++ (Us Z ++ Us zl) = (Us X ++ (Us Y ++ Us Z)) ++ (Us zl ++ []):=by simp
 rw [e2,fill_put _ 3 5 (Us X ++ (Us Y ++ Us Z)) (Us zl) [] (Us T) _ (by simp [Us_len,hX,hY,hZ]) (by rw [Us_len,hT]) rfl,Us_pc]
 simp [Instr.fill]
theorem builtP4 : Tryz.prog.built 112 [(0,.agg (Us X).toArray),(1,.agg (Us Y).toArray),(2,.agg (Us Z).toArray),(3,.agg (Us T).toArray)] = some (Us (pc X Y Z T)).toArray:=by rw [builtP,fill4 hX hY hZ hT]
theorem builtA4 : Tryz.prog.built 130 [(0,.agg (Us X).toArray),(1,.agg (Us Y).toArray),(2,.agg (Us Z).toArray),(3,.agg (Us T).toArray)] = some (Us (pc X Y Z T)).toArray:=by rw [builtA,fill4 hX hY hZ hT]
omit hT
theorem builtP3 : Tryz.prog.built 112 [(0,.agg (Us X).toArray),(1,.agg (Us Y).toArray),(2,.agg (Us Z).toArray)] = some (Us (pc X Y Z zl)).toArray:=by rw [builtP,fill3 hX hY hZ,Us_pc]
end
theorem builtP0 : Tryz.prog.built 112 [] = some (Us pz).toArray:=by rw [builtP]; rfl

/-! ### '==' -/
theorem part_pt (w : World) (A V Z : List Nat) (off : Nat) (ho : A.length = off) (hV : V.length = 5) : (part 110 (Us A ++ (Us V ++ Us Z)).toArray off).run Tryz.prog w = .ok (.agg (Us V).toArray) w:=by
 have hagg : (isAgg 110).run Tryz.prog w = .ok true w:=by
  unfold isAgg
  rw [Sem.run_bind,run_underlying Tryz.underlying110 w]
  rfl
 have hs : (sizeOf 110).run Tryz.prog w = .ok 5 w:=by kernel_rfl
 have he : (Us A ++ (Us V ++ Us Z)).toArray.extract off (off + 5) = (Us V).toArray:=by
  apply Array.ext'
  simp only [List.extract_toArray,List.extract_eq_take_drop];rw [List.drop_append,List.drop_eq_nil_of_le (by rw [Us_len]; omega),Us_len,ho,Nat.sub_self,List.drop_zero,List.nil_append,Nat.add_sub_cancel_left,List.take_append,Us_len,hV,Nat.sub_self,List.take_zero,List.append_nil,List.take_of_length_le (by rw [Us_len,hV]; exact Nat.le_refl _)]
 unfold part
 simp only [Sem.run_bind,hagg,Result.andThen_ok,if_true,hs,Sem.run_pure,he]
theorem equal_elD (d : Nat) (l m : List Nat) (hl : l.length = 5) (hm : m.length = 5) (w : World) :
  (Op.equalIn (d + 3) 110 (.agg (Us l).toArray) (.agg (Us m).toArray)).run Tryz.prog w = .ok (decide (l = m)) w:=by
 have he:=equalIn_words d 5 108 l m Tryz.underlying108 hl hm w
 have hst : Tryz.prog.stoodInHeld 110 = false:=by kernel_rfl
 rw [Op.equalIn];simp only [Sem.run_bind,run_underlying Tryz.underlying110,Result.andThen_ok,run_program,hst];rw [if_neg (by decide)];have hp:=partEl w l hl;have hq:=partEl w m hm;generalize decide (l = m) = q at *
 cases q <;> simp [Sem.run_bind,hp,hq,he,Sem.run_pure]
set_option maxRecDepth 20000 in
theorem equal_pt (X Y Z T X' Y' Z' T' : List Nat) (hX : X.length = 5) (hY : Y.length = 5) (hZ : Z.length = 5) (hT : T.length = 5) (hX' : X'.length = 5) (hY' : Y'.length = 5) (hZ' : Z'.length = 5) (hT' : T'.length = 5) (w : World) :
  (Op.equalIn 10000 112 (.agg (Us (pc X Y Z T)).toArray) (.agg (Us (pc X' Y' Z' T')).toArray)).run Tryz.prog w = .ok (decide (X = X' ∧ Y = Y' ∧ Z = Z' ∧ T = T')) w:=by
 have e1:=equal_elD 9996 X X' hX hX' w;have e2:=equal_elD 9996 Y Y' hY hY' w;have e3:=equal_elD 9996 Z Z' hZ hZ' w;have e4:=equal_elD 9996 T T' hT hT' w
 have p1 : ∀ X Y Z T : List Nat,X.length = 5 → (part 110 (Us (pc X Y Z T)).toArray 0).run Tryz.prog w = .ok (.agg (Us X).toArray) w:=fun X Y Z T h=>by
  have:=part_pt w [] X (Y ++ (Z ++ T)) 0 rfl h
  simpa [pc,Us] using this
 have p2 : ∀ X Y Z T : List Nat,X.length = 5 → Y.length = 5 → (part 110 (Us (pc X Y Z T)).toArray 5).run Tryz.prog w = .ok (.agg (Us Y).toArray) w:=fun X Y Z T h h2=>by
  have:=part_pt w X Y (Z ++ T) 5 h h2
  simpa [pc,Us] using this
 have p3 : ∀ X Y Z T : List Nat,X.length = 5 → Y.length = 5 → Z.length = 5 → (part 110 (Us (pc X Y Z T)).toArray 10).run Tryz.prog w = .ok (.agg (Us Z).toArray) w:=fun X Y Z T h h2 h3=>by
  have:=part_pt w (X ++ Y) Z T 10 (by simp [h,h2]) h3
  simpa [pc,Us] using this
 have p4 : ∀ X Y Z T : List Nat,X.length = 5 → Y.length = 5 → Z.length = 5 → T.length = 5 → (part 110 (Us (pc X Y Z T)).toArray 15).run Tryz.prog w = .ok (.agg (Us T).toArray) w:=fun X Y Z T h h2 h3 h4=>by
  have:=part_pt w (X ++ (Y ++ Z)) T [] 15 (by simp [h,h2,h3]) h4
  simpa [pc,Us] using this
 have hst : Tryz.prog.stoodInHeld 112 = false:=by kernel_rfl
 have a1:=p1 X Y Z T hX;have a2:=p2 X Y Z T hX hY;have a3:=p3 X Y Z T hX hY hZ;have a4:=p4 X Y Z T hX hY hZ hT;have b1:=p1 X' Y' Z' T' hX';have b2:=p2 X' Y' Z' T' hX' hY';have b3:=p3 X' Y' Z' T' hX' hY' hZ';have b4:=p4 X' Y' Z' T' hX' hY' hZ' hT';generalize (Us (pc X Y Z T)).toArray = u at *;generalize (Us (pc X' Y' Z' T')).toArray = v at *;clear p1 p2 p3 p4;rw [Op.equalIn];simp only [Sem.run_bind,run_underlying Tryz.underlying112,Result.andThen_ok,run_program,hst];rw [if_neg (by decide)]
 by_cases h1 : X = X' <;> by_cases h2 : Y = Y' <;> by_cases h3 : Z = Z' <;> by_cases h4 : T = T' <;>
  simp only [h1,h2,h3,h4,decide_true,decide_false,and_true,and_false] at e1 e2 e3 e4 ⊢ <;>
  simp [Sem.run_bind,a1,a2,a3,a4,b1,b2,b3,b4,e1,e2,e3,e4,h1,h2,h3,h4,Sem.run_pure]

/-! ### What the cells mean -/
structure QB (l : List Nat) (A : Ed.Pt p) : Prop where
  ex : ∃ X Y Z T x y z t,l = pc X Y Z T ∧ EB X x ∧ EB Y y ∧ EB Z z ∧ EB T t ∧ Ed.Rep x y z A ∧ t * z = x * y
  on : Ed.On dd A
def PB (l : List Nat) (A : Ed.Pt p) : Prop:=(l = pz ∧ A = Ed.zero) ∨ QB l A
structure AB (l : List Nat) (A : Ed.Pt p) : Prop where
  ex : ∃ X Y Z T x y z t,l = pc X Y Z T ∧ EB X (y + x) ∧ EB Y (y - x) ∧ EB Z (z + z) ∧ EB T ((t + t) * dd) ∧ Ed.Rep x y z A ∧ t * z = x * y
  on : Ed.On dd A
theorem QB.len {l : List Nat} {A : Ed.Pt p} (h : QB l A) : l.length = 20:=by
 obtain ⟨⟨X,Y,Z,T,x,y,z,t,rfl,hX,hY,hZ,hT,_⟩,_⟩:=h;exact pc_len hX.len hY.len hZ.len hT.len
theorem AB.len {l : List Nat} {A : Ed.Pt p} (h : AB l A) : l.length = 20:=by
 obtain ⟨⟨X,Y,Z,T,x,y,z,t,rfl,hX,hY,hZ,hT,_⟩,_⟩:=h;exact pc_len hX.len hY.len hZ.len hT.len
theorem PB.len {l : List Nat} {A : Ed.Pt p} (h : PB l A) : l.length = 20:=by
 rcases h with ⟨rfl,_⟩ | h
 ·rfl
 ·exact h.len
theorem PB.on {l : List Nat} {A : Ed.Pt p} (h : PB l A) : Ed.On dd A:=by
 rcases h with ⟨_,rfl⟩ | h
 ·exact Ed.on_zero
 ·exact h.on
theorem ne_zl {l : List Nat} {z : F} (h : EB l z) (hz : z ≠ 0) : l ≠ zl:=by
 rintro rfl
 exact hz (h.val.symm.trans fof_zero)
theorem QB.ne {X Y Z T : List Nat} {z : F} (hZ : EB Z z) (hz : z ≠ 0) : ¬ (X = zl ∧ Y = zl ∧ Z = zl ∧ T = zl):=fun h=>ne_zl hZ hz h.2.2.1

/-! ### Steps -/
theorem own_at : Own 73:=fun _ _=>by go_simp
theorem own_pwhole : Own 76:=fun _ _=>by go_simp
theorem own_factor : Own 107:=fun _ _=>by go_simp
theorem own_addend : Own 97:=fun _ _=>by go_simp
theorem own_plus : Own 95:=fun _ _=>by go_simp
theorem own_doubled : Own 94:=fun _ _=>by go_simp
theorem own_elnew : Own 72:=fun _ _=>by go_simp
section
variable {ops : Array Oper} {C0 : World → Prop} {Q : Act → Prop} {N : Nat} {E : List (Nat × Value)} {o : Oper} {rest : List Oper} {k : Nat}
theorem f_el {x : Operand} {l : List Nat} (b off : Nat) (hl : l.length = 5) (hg : o.guard = none) (hd : o.dst = some k) (hk : Nat.blt k N = true) (ho : o.op = .load 110 x) (hx : ev E x = some (.pointer (some ⟨b,off,none⟩)))
  (hc : ∀ w,C0 w → w.rangeAt b off (Us l)) (hn : bF Tryz.prog ops C0 Q rest N ((k,.agg (Us l).toArray) :: E)) : bF Tryz.prog ops C0 Q (o :: rest) N E :=
 f_row b off (Us l) _ hg hd hk ho hx hc Tryz.underlying110 rfl (size_e hl) hn
theorem f_pt {x : Operand} {l : List Nat} (b off : Nat) (hl : l.length = 20) (hg : o.guard = none) (hd : o.dst = some k) (hk : Nat.blt k N = true) (ho : o.op = .load 112 x) (hx : ev E x = some (.pointer (some ⟨b,off,none⟩)))
  (hc : ∀ w,C0 w → w.rangeAt b off (Us l)) (hn : bF Tryz.prog ops C0 Q rest N ((k,.agg (Us l).toArray) :: E)) : bF Tryz.prog ops C0 Q (o :: rest) N E :=
 f_row b off (Us l) _ hg hd hk ho hx hc Tryz.underlying112 rfl (size_cp (by rw [Us_len,hl])) hn
theorem f_ad {x : Operand} {l : List Nat} (b off : Nat) (hl : l.length = 20) (hg : o.guard = none) (hd : o.dst = some k) (hk : Nat.blt k N = true) (ho : o.op = .load 130 x) (hx : ev E x = some (.pointer (some ⟨b,off,none⟩)))
  (hc : ∀ w,C0 w → w.rangeAt b off (Us l)) (hn : bF Tryz.prog ops C0 Q rest N ((k,.agg (Us l).toArray) :: E)) : bF Tryz.prog ops C0 Q (o :: rest) N E :=
 f_row b off (Us l) _ hg hd hk ho hx hc Tryz.underlying130 rfl (size_ad (by rw [Us_len,hl])) hn
theorem f_us {f : FuncId} {xs : Array Operand} {ats : Array TypeId} (args : Array Value) (V : List Nat → Prop) (hg : o.guard = none) (hd : o.dst = some k) (hk : Nat.blt k N = true)
  (hf : Own f) (hc : ∀ w,C0 w → Calls Tryz.prog f args w (fun e w'=>∃ r,V r ∧ e = .returned (.agg (Us r).toArray) ∧ Below w.heap.size w w'))
  (ho : o.op = .call { callee:=.value (.func f),args:=xs,argTypes:=ats }) (hx : xs.toList.map (ev E) = args.toList.map some) (hn : ∀ r,V r → bF Tryz.prog ops C0 Q rest N ((k,.agg (Us r).toArray) :: E)) : bF Tryz.prog ops C0 Q (o :: rest) N E:=by
 refine f_callV args (fun v=>∃ r,V r ∧ v = .agg (Us r).toArray) hg hd hk hf (fun w hw=>(hc w hw).mono ?_) ho hx ?_
 ·rintro e w2 ⟨r,hr,rfl,hw2⟩
  exact ⟨_,rfl,⟨r,hr,rfl⟩,hw2⟩
 ·rintro _ ⟨r,hr,rfl⟩
  exact hn r hr
end

section
variable {ops : Array Oper} {C0 : World → Prop} {Q : Act → Prop} {N : Nat} {E : List (Nat × Value)} {o : Oper} {rest : List Oper} {k : Nat}
theorem f_tup {f : FuncId} {xs : Array Operand} {ats : Array TypeId} (args : Array Value) (x : F) (hg : o.guard = none) (hd : o.dst = some k) (hk : Nat.blt k N = true)
  (hf : Own f) (hc : ∀ w,C0 w → Calls Tryz.prog f args w (fun e w'=>∃ r,EB r x ∧ e = .returned (.tuple #[.agg (Us r).toArray,.bool true]) ∧ Below w.heap.size w w'))
  (ho : o.op = .call { callee:=.value (.func f),args:=xs,argTypes:=ats }) (hx : xs.toList.map (ev E) = args.toList.map some) (hn : ∀ r,EB r x → bF Tryz.prog ops C0 Q rest N ((k,.tuple #[.agg (Us r).toArray,.bool true]) :: E)) : bF Tryz.prog ops C0 Q (o :: rest) N E:=by
 refine f_callV args (fun v=>∃ r,EB r x ∧ v = .tuple #[.agg (Us r).toArray,.bool true]) hg hd hk hf (fun w hw=>(hc w hw).mono ?_) ho hx ?_
 ·rintro e w2 ⟨r,hr,rfl,hw2⟩
  exact ⟨_,rfl,⟨r,hr,rfl⟩,hw2⟩
 ·rintro _ ⟨r,hr,rfl⟩
  exact hn r hr
end
theorem eq_pz (w : World) : (Op.equalIn 10000 112 (.agg (Us pz).toArray) (.agg (Us pz).toArray)).run Tryz.prog w = .ok true w:=by
 have:=equal_pt zl zl zl zl zl zl zl zl rfl rfl rfl rfl rfl rfl rfl rfl w;rw [decide_eq_true ⟨rfl,rfl,rfl,rfl⟩] at this;exact this
theorem ne_pz {l : List Nat} {A : Ed.Pt p} (h : QB l A) (w : World) : (Op.equalIn 10000 112 (.agg (Us l).toArray) (.agg (Us pz).toArray)).run Tryz.prog w = .ok false w:=by
 obtain ⟨⟨X,Y,Z,T,x,y,z,t,rfl,hX,hY,hZ,hT,hr,_⟩,_⟩:=h;have:=equal_pt X Y Z T zl zl zl zl hX.len hY.len hZ.len hT.len rfl rfl rfl rfl w;rw [decide_eq_false (QB.ne hZ hr.z)] at this;exact this
theorem size_P {l : List Nat} (h : l.length = 20) : (Tryz.prog.info? 112).map (·.size) = some (Us l).toArray.size:=size_cp (us_size h)
theorem size_A {l : List Nat} (h : l.length = 20) : (Tryz.prog.info? 130).map (·.size) = some (Us l).toArray.size:=size_ad (us_size h)
theorem size_E {l : List Nat} (h : l.length = 5) : (Tryz.prog.info? 110).map (·.size) = some (Us l).toArray.size:=by
 rw [us_size h]
 kernel_rfl

theorem Tw.only {w w' : World} {g : Nat} (h : Tw w) (ho : OnlyG w w' g) (hg : 2 < g) : Tw w':=⟨fun i hi=>by rw [ho.cell _ (by show (2 : Nat) ≠ g; omega)]; exact h.cell i hi,by rw [ho.size]; exact h.lt⟩
end Go.Proofs.YtlcbhbahchiofaaGreatDoor
/-
  BYTES OF A NUMBER, ONE BY ONE.
-/
namespace Go.Proofs.YtlcbhbahchiofaaGreatDoor
open Go.RowKit Go.IntWalk

theorem bytes_get : ∀ (k v : Nat) {m : Nat},m < k → ((Nums.bytes k v)[m]!).toNat = v / 256 ^ m % 256
 | k + 1,v,0,_=>by
  show (UInt8.ofNat v).toNat = v / 1 % 256
  rw [UInt8.toNat_ofNat',Nat.div_one]
 | k + 1,v,m + 1,h=>by
  have ih:=bytes_get k (v / 256) (m:=m) (by omega)
  show ((Nums.bytes k (v / 256))[m]!).toNat = v / 256 ^ (m + 1) % 256
  rw [ih,Nat.div_div_eq_div_mul,Nat.pow_succ,Nat.mul_comm 256]

end Go.Proofs.YtlcbhbahchiofaaGreatDoor
/-
  THE FIELD'S NUMBERS: Hash: the bytes of the number below p.
-/
namespace Go.Proofs.YtlcbhbahchiofaaGreatDoor
open Go.RowKit Go.IntWalk Nums

theorem wd_limbs {l : List Nat} (hl : l.length = 5) (hb : ∀ y ∈ l,y < 2251799813685248) {k : Nat} (hk : k < 4) :
  bits .or .u64 ((l[64 * k / 51]! : Nat) / 2 ^ (64 * k % 51) : Int) (IntKind.u64.wrap ((l[64 * k / 51 + 1]! : Nat) * 2 ^ (51 - 64 * k % 51) : Int)) = ((wd (lv l) k : Nat) : Int):=by
 obtain ⟨a0,a1,a2,a3,a4,rfl⟩:=five hl;have h0:=hb a0 (by simp);have h1:=hb a1 (by simp);have h2:=hb a2 (by simp);have h3:=hb a3 (by simp);have h4:=hb a4 (by simp)
 unfold wd
 rw [lv5]
 have h4' : k = 0 ∨ k = 1 ∨ k = 2 ∨ k = 3:=by omega
 have key : ∀ (i x y r t L : Nat),y * 2 ^ t % 18446744073709551616 % 2 ^ i = 0 → x / 2 ^ r < 2 ^ i → x / 2 ^ r < 18446744073709551616 → y * 2 ^ t % 18446744073709551616 + x / 2 ^ r = L →
   bits .or .u64 ((x : Nat) / 2 ^ r : Int) (IntKind.u64.wrap ((y : Nat) * 2 ^ t : Int)) = (L : Int):=by
  intro i x y r t L e1 e2 e3 e4
  have f1 : ((x : Int) / 2 ^ r) = ((x / 2 ^ r : Nat) : Int):=by simp
  have f2 : IntKind.u64.wrap ((y : Int) * 2 ^ t) = ((y * 2 ^ t % 18446744073709551616 : Nat) : Int):=by
   rw [IntKind.wrap_u64]
   simp
  rw [f1,f2,← e4,u64_or_nat _ _ e3 (by omega),Nat.or_comm,nat_join i _ _ e1 e2]
 rcases h4' with rfl | rfl | rfl | rfl
 ·exact key 51 a0 a1 0 51 _ (by omega) (by omega) (by omega) (by simp only [Nat.reducePow]; omega)
 ·exact key 38 a1 a2 13 38 _ (by omega) (by omega) (by omega) (by simp only [Nat.reducePow]; omega)
 ·exact key 25 a2 a3 26 25 _ (by omega) (by omega) (by omega) (by simp only [Nat.reducePow]; omega)
 ·exact key 12 a3 a4 39 12 _ (by omega) (by omega) (by omega) (by simp only [Nat.reducePow]; omega)

structure HSt (w wr : World) (g : Nat) (l : List Nat) (b : List UInt8) (n : Nat) : Prop where
  b1 : Blk wr (w.heap.size + 1) 45 z32
  b2 : Blk wr g 110 (Us l).toArray
  b3 : Blk wr (g + 1) 45 (By (fb b n)).toArray
  be : Below w.heap.size w wr
  hg : w.heap.size + 1 < g
theorem HSt.drew {w wr : World} {g : Nat} {l : List Nat} {b : List UInt8} {n : Nat} (h : HSt w wr g l b n) : HSt w wr.drew g l b n:=⟨h.b1,h.b2,h.b3,h.be.drew,h.hg⟩
theorem HSt.set {w wr : World} {g : Nat} {l : List Nat} {b : List UInt8} {n : Nat} (h : HSt w wr g l b n) : HSt w (wr.setCell ⟨g + 1,n,none⟩ (.int .u8 ((b[n]!).toNat : Int))) g l b (n + 1) where
 b1:=h.b1.far (by have:=h.hg; simp; omega) _
 b2:=h.b2.far (by simp) _
 b3:=by
  have h4:=h.b3.set n (.int .u8 ((b[n]!).toNat : Int));rw [By_set,fb_set] at h4;exact h4
 be:=h.be.setCell (by have:=h.hg; simp; omega) _
 hg:=h.hg

set_option maxRecDepth 100000 in
set_option maxHeartbeats 2000000 in
theorem hash_f {a : List Nat} {x : F} (ha : EB a x) (w : World) :
  Calls Tryz.prog 79 #[.agg (Us a).toArray] w fun e w'=>e = .returned (.agg (By (enc x)).toArray) ∧ Below w.heap.size w w':=by
 obtain ⟨hl,hb,hL⟩:=whole_all ha
 have hbyte : ∀ m,m < 32 → ((enc x)[m]!).toNat = lv (whole a) / 256 ^ m % 256:=fun m hm=>by
  rw [hL];exact bytes_get 32 x.val hm
 have hbl : (enc x).length = 32:=enc_len x;have h0 : ∀ u,Blk ((w.alloc (Obj.cells (Us a).toArray 110)).alloc u) w.heap.size 110 (Us a).toArray:=fun u=>(Blk.new w _ _).alloc u;have h1 : Blk ((w.alloc (Obj.cells (Us a).toArray 110)).alloc (Obj.cells z32 45)) (w.heap.size + 1) 45 z32:=heap_alloc2_new w _ _;have hbel : Below w.heap.size w ((w.alloc (Obj.cells (Us a).toArray 110)).alloc (Obj.cells z32 45)):=((Below.refl _ _).alloc (Nat.le_refl _) _).alloc (by simp) _;have HWH:=fun w1=>Lib.hid (whole_f ha w1);have HK:=Lib.hid (And.intro h1 hbel);have hza:=len_us ha.len;clear hL h1 hbel;generalize enc x = b at *;generalize whole a = l at *
 go_enter Tryz.func79,Tryz.ntmps79
 go_wp2_with (refine wpList_load_row rfl 110 _ rfl w.heap.size rfl 110 (Us a).toArray (0,0) _ (h0 _) Tryz.underlying110 rfl (size_el _ hza) ?_)
 refine (HWH _).out.mono ?_
 rintro e w1 ⟨rfl,hw1⟩
 obtain ⟨h1,hbel⟩:=HK.out;have hbe:=hbel.trans (hw1.mono hbel.size);have h2:=h1.below hw1 h1.lt;have h2s:=h2.lt;have hn : Blk (w1.alloc (Obj.cells z5 110)) w1.heap.size 110 z5:=Blk.new w1 _ _;have hzl:=len_us hl
 have h3 : HSt w (((w1.alloc (Obj.cells z5 110)).setRow w1.heap.size (Us l).toArray).alloc (Obj.cells z32 45)) w1.heap.size l b 0:=by
  have hb3:=Blk.new ((w1.alloc (Obj.cells z5 110)).setRow w1.heap.size (Us l).toArray) 45 z32;rw [size_setRow,World.size_alloc] at hb3;refine ⟨((h2.alloc _).rowFar (by omega) _).alloc _,(hn.row _).alloc _,?_,?_,h2s⟩
  ·rw [fb_zero]
   exact hb3
  ·have hq:=below_setRow (cs:=(Us l).toArray) (hbe.alloc (o:=Obj.cells z5 110) hbe.size) (g:=w1.heap.size) (by omega)
   exact hq.alloc hq.size _
 have H3:=Lib.hid h3;clear h3 h2 h2s hbe hw1 h1 hbel HK HWH h0;generalize hg : w1.heap.size = g at *
 go_wp2_with (refine wpList_store_row rfl 110 _ _ rfl g rfl (Us l).toArray rfl 110 _ hn (size_el _ hzl) (by rw [hzl]; rfl) (Us_one _) ?_)
 clear hg hn
 go_loopw [11] (fun i wr=>∃ k : Nat,k ≤ 4 ∧ i = .int .i64 k ∧ HSt w wr g l b (8 * k)) (fun i _=>4 - (intOf i).toNat)
 case atStart=>exact ⟨0,by omega,rfl,H3.out⟩
 case round =>
  clear H3;obtain ⟨k,hk,rfl,hS⟩:=hrel
  by_cases hlt : k < 4
  ·have hwd:=wd_limbs hl hb hlt
   have hW : wd (lv l) k < 18446744073709551616:=Nat.mod_lt _ (by decide)
   have hby : ∀ j,j < 8 → (b[8 * k + j]!).toNat = wd (lv l) k / 2 ^ (8 * j) % 256:=fun j hj=>by
    rw [wd_byte _ _ _ hj,hbyte _ (by omega)]
   have c0:=(hS.b2.drew.cell (64 * k / 51)).trans (Us_at (by omega));have c1:=(hS.b2.drew.cell (64 * k / 51 + 1)).trans (Us_at (by omega))
   have qA : IntKind.i64.wrap (64 * (k : Int)) = ((64 * k : Nat) : Int):=by rw [i64_left,wrap64_in _ (by omega)]; omega
   have qd : ((64 * k : Nat) : Int).tdiv 51 = ((64 * k / 51 : Nat) : Int):=rfl;have qm : ((64 * k : Nat) : Int).tmod 51 = ((64 * k % 51 : Nat) : Int):=rfl
   have qs : IntKind.i64.wrap (((64 * k / 51 : Nat) : Int) + 1) = ((64 * k / 51 + 1 : Nat) : Int):=by rw [i64_left,wrap64_in _ (by omega)]; omega
   have qt : IntKind.i64.wrap (51 - ((64 * k % 51 : Nat) : Int)) = ((51 - 64 * k % 51 : Nat) : Int):=by rw [i64_left,wrap64_in _ (by omega)]; omega
   have g1 : ((64 * k / 51 + 1 : Nat) : Int) < 5:=by omega
   have g2 : ((64 * k / 51 : Nat) : Int) < 5:=by omega
   have g3 : ((64 * k % 51 : Nat) : Int) ≤ 64:=by omega
   have g4 : ((51 - 64 * k % 51 : Nat) : Int) ≤ 64:=by omega
   have g5 : (0 : Int) ≤ (k : Int):=by omega
   generalize wd (lv l) k = W at *;generalize l[64 * k / 51]! = u at *;generalize l[64 * k / 51 + 1]! = v at *;generalize 51 - 64 * k % 51 = t at *;generalize 64 * k % 51 = r at *;generalize 64 * k / 51 + 1 = q1 at *;generalize 64 * k / 51 = q at *;generalize 64 * k = A at *;have HS:=Lib.hid hS;clear hS
   go_wp2
   go_region
   clear qA qd qm qs qt g1 g2 g3 g4 c0 c1 hwd
   go_wp2
   go_loopw [35] (fun i wq=>∃ j : Nat,j ≤ 8 ∧ i = .int .i64 j ∧ HSt w wq g l b (8 * k + j)) (fun i _=>8 - (intOf i).toNat)
   case atStart=>exact ⟨0,by omega,rfl,HS.out.drew⟩
   case round =>
    clear HS;obtain ⟨j,hj,rfl,hS⟩:=hrel
    by_cases hlj : j < 8
    ·have hbj:=hby j hlj
     have q4 : IntKind.u8.wrap ((W : Int) / 2 ^ (8 * j)) = ((b[8 * k + j]!).toNat : Int):=by
      have f1 : ((W : Int) / 2 ^ (8 * j)) = ((W / 2 ^ (8 * j) : Nat) : Int):=by simp
      rw [f1,IntKind.wrap_u8',hbj]
      omega
     have hN:=hS.set;have hc:=(hS.b3.cell (8 * k + j)).trans (By_get (by rw [fb_len]; omega));have hf:=hS.b3.free (8 * k + j)
     have q1 : IntKind.i64.wrap (8 * (k : Int)) = ((8 * k : Nat) : Int):=by rw [i64_left,wrap64_in _ (by omega)]; omega
     have q2 : IntKind.i64.wrap (((8 * k : Nat) : Int) + (j : Int)) = ((8 * k + j : Nat) : Int):=by rw [i64_left,wrap64_in _ (by omega)]; omega
     have q3 : IntKind.i64.wrap (8 * (j : Int)) = ((8 * j : Nat) : Int):=by rw [i64_left,wrap64_in _ (by omega)]; omega
     have g1 : ((8 * k + j : Nat) : Int) < 32:=by omega
     have g2 : ((8 * j : Nat) : Int) ≤ 64:=by omega
     have e1 : 8 * k + (j + 1) = 8 * k + j + 1:=by omega
     have HN:=Lib.hid hN;clear hS hby hbj hN;generalize (b[8 * k + j]!).toNat = y at *;generalize 8 * k + j = m at *;generalize 8 * k = a8 at *;generalize 8 * j = n at *
     go_wp2
     go_roundw
     case rel =>
      exact ⟨j + 1,by omega,by go_num,by rw [e1]; exact HN.out⟩
     case measure=>simp [intOf]; omega
    ·obtain rfl : j = 8:=by omega
     have HS:=Lib.hid hS;clear hS
     go_wp2
     go_roundw
     case rel=>exact ⟨k + 1,by omega,by go_num,by rw [show 8 * (k + 1) = 8 * k + 8 by omega]; exact HS.out⟩
     case measure=>simp [intOf]; omega
  ·obtain rfl : k = 4:=by omega
   obtain ⟨b1,b2,b3,be,hg⟩:=hS;rw [show 8 * 4 = 32 from rfl,fb_all hbl] at b3
   have hz : (By b).toArray.size = 32:=by rw [List.size_toArray,By_len,hbl]
   clear b2
   go_wp2_with (first
    | (refine wpList_load_row rfl 45 _ rfl (g + 1) rfl 45 (By b).toArray (0,0) _ b3 Tryz.underlying45 rfl (size_hash _ hz) ?_)
    | (refine wpList_store_row rfl 45 _ _ rfl (w.heap.size + 1) rfl (By b).toArray rfl 45 _ b1 (size_hash _ hz) (by rw [hz]; rfl) (By_one _) ?_))
   refine bodyPost_ret (results_cell_row rfl _ _ (w.heap.size + 1) 45 (By b).toArray (0,0) _ rfl (b1.row _) Tryz.underlying45 rfl (size_hash _ hz)) rfl ⟨rfl,?_⟩;exact below_setRow be (by omega) _
end Go.Proofs.YtlcbhbahchiofaaGreatDoor
/-
  PLAIN NUMBERS: the carries step by step. No program is imported.
-/
namespace Nums

end Nums
/-
  THE DOCUMENT'S OWN NUMBERS: carry.
-/
namespace Go.Proofs.YtlcbhbahchiofaaGreatDoor
open Go.RowKit Nums

end Go.Proofs.YtlcbhbahchiofaaGreatDoor
/-
PLAIN NUMBERS: rows that are filled from the first digit on; the digits that Load, Add, Sub and Of make. No program is imported.
PLAIN NUMBERS: the product digit by digit. No program is imported.
PLAIN NUMBERS: what is lent, step by step; bytes two by two. No program is imported.
-/
namespace Nums

def low (b : List UInt8) : List Int:=(join b).set 15 ((join b)[15]! % 32768)
end Nums

namespace Nums

end Nums

namespace Nums

def hst (d : List Int) (k : Nat) : List UInt8:=split (d.take k) ++ List.replicate (2 * (16 - k)) 0
end Nums
/-
  THE DOCUMENT'S OWN NUMBERS: Load, Add, Sub.
-/
namespace Go.Proofs.YtlcbhbahchiofaaGreatDoor
open Go.RowKit Go.IntWalk Nums

end Go.Proofs.YtlcbhbahchiofaaGreatDoor
/-
  THE DOCUMENT'S OWN NUMBERS: Add, Sub.
-/
namespace Go.Proofs.YtlcbhbahchiofaaGreatDoor
open Go.RowKit Go.IntWalk Nums

end Go.Proofs.YtlcbhbahchiofaaGreatDoor
/-
  THE DOCUMENT'S OWN NUMBERS: Mul.
-/
namespace Go.Proofs.YtlcbhbahchiofaaGreatDoor
open Go.RowKit Go.IntWalk Nums

end Go.Proofs.YtlcbhbahchiofaaGreatDoor
/-
  THE DOCUMENT'S OWN NUMBERS: Pack.
-/
namespace Go.Proofs.YtlcbhbahchiofaaGreatDoor
open Go.RowKit Go.IntWalk Nums

end Go.Proofs.YtlcbhbahchiofaaGreatDoor
/-
  THE DOCUMENT'S OWN NUMBERS: Of; numbers modulo p as rows.
-/
namespace Go.Proofs.YtlcbhbahchiofaaGreatDoor
open Go.RowKit Go.IntWalk Nums

end Go.Proofs.YtlcbhbahchiofaaGreatDoor
/-
  PLAIN NUMBERS: rows of bits, and one less. No program is imported.
-/
namespace Nums

def bv : List Bool → Nat
  | []=>0
  | b :: bs=>(if b then 1 else 0) + 2 * bv bs

def dst (l : List Bool) (i : Nat) : List Bool:=List.replicate i true ++ l.drop i
end Nums
/-
  THE DOCUMENT'S OWN NUMBERS: Power.
-/
namespace Go.Proofs.YtlcbhbahchiofaaGreatDoor
open Go.RowKit Go.IntWalk Nums

end Go.Proofs.YtlcbhbahchiofaaGreatDoor
/-
  THE DOCUMENT'S OWN NUMBERS: Inv.
-/
namespace Go.Proofs.YtlcbhbahchiofaaGreatDoor
open Go.RowKit Go.IntWalk Nums

end Go.Proofs.YtlcbhbahchiofaaGreatDoor
/-
TWO ROWS OF NUMBERS IN BLOCKS OF THE CALL'S OWN.
THE DOCUMENT'S OWN NUMBERS: Good.
-/
namespace Go.Proofs.YtlcbhbahchiofaaGreatDoor
open Go.RowKit Go.IntWalk Nums

end Go.Proofs.YtlcbhbahchiofaaGreatDoor

namespace Go.Proofs.YtlcbhbahchiofaaGreatDoor
open Go.RowKit Go.IntWalk Nums

def isGood (b : List UInt8) : Bool:=decide ((b[31]!).toNat < 128) && decide (enc (fof (le b % 57896044618658097711785492504343953926634992332820282019728792003956564819968)) = b)

end Go.Proofs.YtlcbhbahchiofaaGreatDoor
/-
  THE FIELD'S NUMBERS: New: which bytes are a number.
-/
namespace Go.Proofs.YtlcbhbahchiofaaGreatDoor
open Go.RowKit Go.IntWalk Nums

/-! ### Eight words of bytes -/
theorem wd_more (T y q r : Nat) (hr : r < 8) (hT : T < 256 ^ (8 * q + r)) (hy : y < 256) (j : Nat) :
  wd (T + 256 ^ (8 * q + r) * y) j = if j = q then wd T j + 256 ^ r * y else wd T j:=by
 have hp : (256 : Nat) ^ (8 * q + r) = 18446744073709551616 ^ q * 256 ^ r:=by rw [Nat.pow_add,Nat.pow_mul]
 have hr8 : (256 : Nat) ^ (r + 1) ≤ 18446744073709551616:=Nat.pow_le_pow_right (by omega) (show r + 1 ≤ 8 by omega);have hr9 : (256 : Nat) ^ (r + 1) = 256 ^ r * 256:=Nat.pow_succ ..;have hm : (256 : Nat) ^ r * y ≤ 256 ^ r * 255:=Nat.mul_le_mul (Nat.le_refl _) (by omega);rw [hp] at hT ⊢;have hPq : 0 < (18446744073709551616 : Nat) ^ q:=Nat.pow_pos (by omega)
 unfold wd
 by_cases hjq : j = q
 ·subst hjq
  rw [if_pos rfl,Nat.mul_assoc,Nat.add_mul_div_left _ _ hPq];have hz : T / 18446744073709551616 ^ j < 256 ^ r:=Nat.div_lt_of_lt_mul hT;rw [Nat.mod_eq_of_lt (by omega),Nat.mod_eq_of_lt (by omega)]
 ·rw [if_neg hjq]
  rcases Nat.lt_or_gt_of_ne hjq with hlt | hgt
  ·obtain ⟨d,rfl⟩ : ∃ d,q = j + 1 + d:=⟨q - j - 1,by omega⟩
   have e : (18446744073709551616 : Nat) ^ (j + 1 + d) * 256 ^ r * y = 18446744073709551616 ^ j * (18446744073709551616 * (18446744073709551616 ^ d * 256 ^ r * y)):=by
    rw [Nat.pow_add,Nat.pow_succ];simp only [Nat.mul_assoc]
   rw [e,Nat.add_mul_div_left _ _ (Nat.pow_pos (by omega)),Nat.add_mul_mod_self_left]
  ·obtain ⟨d,rfl⟩ : ∃ d,j = q + 1 + d:=⟨j - q - 1,by omega⟩
   have e : (18446744073709551616 : Nat) ^ (q + 1 + d) = 18446744073709551616 ^ q * 18446744073709551616 * 18446744073709551616 ^ d:=by rw [Nat.pow_add,Nat.pow_succ]
   have hd : 0 < (18446744073709551616 : Nat) ^ d:=Nat.pow_pos (by omega)
   have hb : 18446744073709551616 ^ q * 18446744073709551616 ≤ (18446744073709551616 : Nat) ^ (q + 1 + d):=by
    rw [e];exact Nat.le_mul_of_pos_right _ hd
   have h1 : 18446744073709551616 ^ q * 256 ^ r + 18446744073709551616 ^ q * 256 ^ r * y ≤ 18446744073709551616 ^ q * 18446744073709551616:=by
    rw [Nat.mul_assoc,← Nat.mul_add];exact Nat.mul_le_mul (Nat.le_refl _) (by omega)
   rw [Nat.div_eq_of_lt (by omega),Nat.div_eq_of_lt (by omega)]

theorem le_take {b : List UInt8} {n : Nat} (h : n < b.length) : le (b.take (n + 1)) = le (b.take n) + 256 ^ n * (b[n]!).toNat:=by
 rw [List.take_succ_eq_append_getElem h,le_append,List.length_take,Nat.min_eq_left (by omega),getElem!_pos b n h]
 show le (b.take n) + 256 ^ n * ((b[n]).toNat + 256 * 0) = _
 rw [Nat.mul_zero,Nat.add_zero]

def wds (b : List UInt8) (n : Nat) : List Nat:=(List.range 5).map fun j=>wd (le (b.take n)) j
theorem wds_len (b : List UInt8) (n : Nat) : (wds b n).length = 5:=by simp [wds]
theorem wds_get (b : List UInt8) (n : Nat) {j : Nat} (h : j < 5) : (wds b n)[j]! = wd (le (b.take n)) j:=by
 rw [getElem!_pos _ j (by rw [wds_len]; exact h)]
 simp [wds]
theorem wds_zero (b : List UInt8) : wds b 0 = [0,0,0,0,0]:=by
 have e : ∀ j,wd (le (b.take 0)) j = 0:=fun j=>by
  show 0 / _ % _ = 0
  rw [Nat.zero_div]
 simp only [wds,e]
 rfl
theorem wd_small {T n : Nat} (hT : T < 256 ^ n) : wd T (n / 8) < 2 ^ (8 * (n % 8)):=by
 have e : (256 : Nat) ^ n = 18446744073709551616 ^ (n / 8) * 2 ^ (8 * (n % 8)):=by
  have h : (256 : Nat) ^ n = 256 ^ (8 * (n / 8) + n % 8):=by congr 1; omega
  rw [h,Nat.pow_add,Nat.pow_mul,Nat.pow_mul]
 rw [e] at hT;have hz:=Nat.div_lt_of_lt_mul hT;exact Nat.lt_of_le_of_lt (Nat.mod_le _ _) hz
theorem wds_set {b : List UInt8} {n : Nat} (h : n < b.length) : (wds b n).set (n / 8) (wd (le (b.take n)) (n / 8) + 2 ^ (8 * (n % 8)) * (b[n]!).toNat) = wds b (n + 1):=by
 have hT:=le_lt (b.take n);rw [List.length_take,Nat.min_eq_left (by omega)] at hT
 have e2 : (256 : Nat) ^ n = 256 ^ (8 * (n / 8) + n % 8):=by congr 1; omega
 have e3 : (2 : Nat) ^ (8 * (n % 8)) = 256 ^ (n % 8):=by rw [Nat.pow_mul]
 have hy:=(b[n]!).toNat_lt
 apply List.ext_getElem (by simp [wds])
 intro j h1 h2
 have hj : j < 5:=by simpa [wds] using h2
 rw [List.getElem_set];simp only [wds,List.getElem_map,List.getElem_range];rw [le_take h,e2,wd_more _ _ _ _ (by omega) (by rw [← e2]; exact hT) hy]
 by_cases hjq : n / 8 = j
 ·subst hjq
  rw [if_pos rfl,if_pos rfl,e3]
 ·rw [if_neg hjq,if_neg (fun e=>hjq e.symm)]

theorem or_byte {old y m : Nat} (hm : m ≤ 56) (hold : old < 2 ^ m) (hy : y < 256) :
  bits .or .u64 (old : Int) (IntKind.u64.wrap ((y : Int) * 2 ^ m)) = ((old + 2 ^ m * y : Nat) : Int):=by
 have hp : (2 : Nat) ^ m ≤ 2 ^ 56:=Nat.pow_le_pow_right (by omega) hm
 have h56 : (2 : Nat) ^ 56 = 72057594037927936:=by decide
 have hx : y * 2 ^ m ≤ 255 * 2 ^ 56:=Nat.mul_le_mul (by omega) hp
 have f2 : IntKind.u64.wrap ((y : Int) * 2 ^ m) = ((y * 2 ^ m : Nat) : Int):=by
  have : ((y : Int) * 2 ^ m) = ((y * 2 ^ m : Nat) : Int):=by simp
  rw [this,wrapN _ (by omega)]
 rw [f2,u64_or_nat _ _ (by omega) (by omega),Nat.or_comm,nat_join m _ _ (Nat.mul_mod_left ..) hold,Nat.add_comm,Nat.mul_comm]

/-! ### Five limbs of words -/
def lbs (L : Nat) : List Nat:=(List.range 5).map fun i=>L / 2251799813685248 ^ i % 2251799813685248
theorem lbs_mx (L : Nat) : lbs L = mx (fun i=>L / 2251799813685248 ^ i % 2251799813685248) [0,0,0,0,0] 5:=rfl
theorem lbs_eb (L : Nat) : EB (lbs L) (fof (L % 57896044618658097711785492504343953926634992332820282019728792003956564819968)):=by
 refine EB.mk5 (a0:=L / 2251799813685248 ^ 0 % 2251799813685248) (a1:=L / 2251799813685248 ^ 1 % 2251799813685248) (a2:=L / 2251799813685248 ^ 2 % 2251799813685248) (a3:=L / 2251799813685248 ^ 3 % 2251799813685248) (a4:=L / 2251799813685248 ^ 4 % 2251799813685248) (by omega) (by omega) (by omega) (by omega) (by omega) ?_
 congr 1
 rw [lv5];simp only [Nat.reducePow]
 omega

theorem lb_words {L : Nat} (hL : L < 115792089237316195423570985008687907853269984665640564039457584007913129639936) {i : Nat} (hi : i < 5) :
  bits .and .u64 (bits .or .u64 ((wd L (51 * i / 64) : Nat) / 2 ^ (51 * i % 64) : Int) (IntKind.u64.wrap ((wd L (51 * i / 64 + 1) : Nat) * 2 ^ (64 - 51 * i % 64) : Int))) 2251799813685247 = ((L / 2251799813685248 ^ i % 2251799813685248 : Nat) : Int):=by
 have key : ∀ (k x y r t R : Nat),y * 2 ^ t % 18446744073709551616 % 2 ^ k = 0 → x / 2 ^ r < 2 ^ k → x / 2 ^ r < 18446744073709551616 → y * 2 ^ t % 18446744073709551616 + x / 2 ^ r < 18446744073709551616 → (y * 2 ^ t % 18446744073709551616 + x / 2 ^ r) % 2251799813685248 = R →
   bits .and .u64 (bits .or .u64 ((x : Nat) / 2 ^ r : Int) (IntKind.u64.wrap ((y : Nat) * 2 ^ t : Int))) 2251799813685247 = (R : Int):=by
  intro k x y r t R e1 e2 e3 e5 e4
  have f1 : ((x : Int) / 2 ^ r) = ((x / 2 ^ r : Nat) : Int):=by simp
  have f2 : IntKind.u64.wrap ((y : Int) * 2 ^ t) = ((y * 2 ^ t % 18446744073709551616 : Nat) : Int):=by
   rw [IntKind.wrap_u64]
   simp
  rw [f1,f2,u64_or_nat _ _ e3 (by omega),Nat.or_comm,nat_join k _ _ e1 e2,maskW _ e5,e4]
 have h5 : i = 0 ∨ i = 1 ∨ i = 2 ∨ i = 3 ∨ i = 4:=by omega
 unfold wd
 rcases h5 with rfl | rfl | rfl | rfl | rfl
 ·exact key 64 (L / 18446744073709551616 ^ 0 % 18446744073709551616) (L / 18446744073709551616 ^ 1 % 18446744073709551616) 0 64 _ (by omega) (by omega) (by omega) (by omega) (by simp only [Nat.reducePow]; omega)
 ·exact key 13 (L / 18446744073709551616 ^ 0 % 18446744073709551616) (L / 18446744073709551616 ^ 1 % 18446744073709551616) 51 13 _ (by omega) (by omega) (by omega) (by omega) (by simp only [Nat.reducePow]; omega)
 ·exact key 26 (L / 18446744073709551616 ^ 1 % 18446744073709551616) (L / 18446744073709551616 ^ 2 % 18446744073709551616) 38 26 _ (by omega) (by omega) (by omega) (by omega) (by simp only [Nat.reducePow]; omega)
 ·exact key 39 (L / 18446744073709551616 ^ 2 % 18446744073709551616) (L / 18446744073709551616 ^ 3 % 18446744073709551616) 25 39 _ (by omega) (by omega) (by omega) (by omega) (by simp only [Nat.reducePow]; omega)
 ·exact key 52 (L / 18446744073709551616 ^ 3 % 18446744073709551616) (L / 18446744073709551616 ^ 4 % 18446744073709551616) 12 52 _ (by omega) (by omega) (by omega) (by omega) (by simp only [Nat.reducePow]; omega)

structure NSt (w wr : World) (b : List UInt8) (n : Nat) : Prop where
  b0 : Blk wr w.heap.size 45 (By b).toArray
  b1 : Blk wr (w.heap.size + 1) 110 z5
  b2 : Blk wr (w.heap.size + 1 + 1) 108 (Us (wds b n)).toArray
  be : Below w.heap.size w wr
set_option maxRecDepth 100000 in
set_option maxHeartbeats 2000000 in
theorem new_f {b : List UInt8} (hbl : b.length = 32) (w : World) :
  Calls Tryz.prog 72 #[.agg (By b).toArray] w fun e w' =>
   ((isGood b = true ∧ ∃ r,EB r (fof (le b % 57896044618658097711785492504343953926634992332820282019728792003956564819968)) ∧ e = .returned (.tuple #[.agg (Us r).toArray,.bool true])) ∨ (isGood b = false ∧ e = .returned (.tuple #[.agg z5,.bool false]))) ∧ Below w.heap.size w w':=by
 have hG : isGood b = decide (enc (fof (le b % 57896044618658097711785492504343953926634992332820282019728792003956564819968)) = b):=by
  unfold isGood
  by_cases he : enc (fof (le b % 57896044618658097711785492504343953926634992332820282019728792003956564819968)) = b
  ·have h128 : (b[31]!).toNat < 128:=by
    have:=enc_top (fof (le b % 57896044618658097711785492504343953926634992332820282019728792003956564819968))
    rwa [he] at this
   rw [decide_eq_true h128,Bool.true_and]
  ·rw [decide_eq_false he,Bool.and_false]
 rw [hG];clear hG;have hE:=lbs_eb (le b);generalize fof (le b % 57896044618658097711785492504343953926634992332820282019728792003956564819968) = z at *;have hq:=fun w1=>equal32 (enc z) b (enc_len _) hbl w1;generalize decide (enc z = b) = ok at *;have HH:=fun w1=>hash_f hE w1;have hez:=enc_len z;generalize enc z = ez at *;have HE:=Lib.hid (And.intro hE (And.intro hq HH));clear hE hq HH
 go_enter Tryz.func72,Tryz.ntmps72
 go_wp2
 go_loopw [9] (fun i wr=>∃ n : Nat,n ≤ 32 ∧ i = .int .i64 n ∧ NSt w wr b n) (fun i _=>32 - (intOf i).toNat)
 case atStart =>
  refine ⟨0,by omega,rfl,blk3_0 w _ _ _ _,blk3_1 w _ _ _ _,?_,(((Below.refl _ _).alloc (Nat.le_refl _) _).alloc (by simp) _).alloc (by simp; omega) _⟩;rw [wds_zero];exact blk3_2 w _ _ _ _
 case round =>
  obtain ⟨n,hn,rfl,h0,h1,h2,hbel⟩:=hrel
  by_cases hlt : n < 32
  ·have hT:=le_lt (b.take n)
   rw [List.length_take,Nat.min_eq_left (by omega)] at hT;have hsm:=wd_small hT;have hN:=wds_set (b:=b) (n:=n) (by omega);have c0:=(h2.drew.cell (n / 8)).trans (Us_at (by rw [wds_len]; omega));rw [wds_get b n (by omega)] at c0;have c1:=(h0.drew.cell n).trans (By_get (by omega));have hf:=h2.drew.free (n / 8);have hy:=(b[n]!).toNat_lt;have hor:=or_byte (m:=8 * (n % 8)) (by omega) hsm hy;generalize (b[n]!).toNat = y at *;generalize wd (le (b.take n)) (n / 8) = old at *;have q1 : ((n : Nat) : Int).tdiv 8 = ((n / 8 : Nat) : Int):=rfl;have q2 : ((n : Nat) : Int).tmod 8 = ((n % 8 : Nat) : Int):=rfl
   have q3 : IntKind.i64.wrap (((n % 8 : Nat) : Int) * 8) = ((8 * (n % 8) : Nat) : Int):=by rw [i64_left,wrap64_in _ (by omega)]; omega
   have q4 : IntKind.u64.wrap (y : Int) = (y : Int):=wrapN y (by omega)
   have q5 : IntKind.i64.wrap ((n / 8 : Nat) : Int) = ((n / 8 : Nat) : Int):=by rw [i64_left,wrap64_in _ (by omega)]
   have q6 : IntKind.i64.wrap ((n % 8 : Nat) : Int) = ((n % 8 : Nat) : Int):=by rw [i64_left,wrap64_in _ (by omega)]
   have g1 : ((n / 8 : Nat) : Int) < 5:=by omega
   have g2 : ((8 * (n % 8) : Nat) : Int) ≤ 64:=by omega
   have g3 : (0 : Int) ≤ (n : Int):=by omega
   generalize old + 2 ^ (8 * (n % 8)) * y = nw at *;generalize 8 * (n % 8) = m at *;generalize hq : n / 8 = q at *;generalize n % 8 = r at *;have HK:=Lib.hid (And.intro h0 (And.intro h1 (And.intro h2 (And.intro hbel hN))));clear h0 h1 h2 hbel hN hT hsm hq hy
   go_wp2
   go_still_tail 14,(by kernel_rfl)
   go_wp2
   go_roundw
   case rel =>
    obtain ⟨h0,h1,h2,hbel,hN⟩:=HK.out;have h4:=h2.set q (.int .u64 (nw : Int));rw [Us_set,hN] at h4;exact ⟨n + 1,by omega,by go_num,h0.far (by simp; omega) _,h1.far (by simp) _,h4,(hbel.setCell (by simp; omega) _).drew⟩
   case measure=>simp [intOf]; omega
  ·obtain rfl : n = 32:=by omega
   have hT : b.take 32 = b:=List.take_of_length_le (by omega);have hL:=le_lt b;rw [hbl] at hL
   have hW : ∀ j,j < 5 → (wds b 32)[j]! = wd (le b) j:=fun j hj=>by rw [wds_get b 32 hj,hT]
   have hwl:=wds_len b 32;have hbn:=fun o=>Blk.new wr 110 o;have k0 : ∀ o,Blk (wr.alloc o) w.heap.size 45 (By b).toArray:=fun o=>h0.alloc o;have k1 : ∀ o,Blk (wr.alloc o) (w.heap.size + 1) 110 z5:=fun o=>h1.alloc o;have k2 : ∀ o,Blk (wr.alloc o) (w.heap.size + 1 + 1) 108 (Us (wds b 32)).toArray:=fun o=>h2.alloc o;have kb : ∀ o,Below w.heap.size w (wr.alloc o):=fun o=>hbel.alloc hbel.size o;have hlt2:=h2.lt;have HK:=Lib.hid (And.intro k0 (And.intro k1 (And.intro k2 (And.intro kb hbn))));clear h0 h1 h2 hbel k0 k1 k2 kb hbn hlt hn;generalize hg : wr.heap.size = g at *;generalize wds b 32 = W at *
   go_wp2
   generalize ((32 : Nat) : Int) = s32
   go_loopw [27] (fun i wq=>∃ k : Nat,k ≤ 5 ∧ i = .int .i64 k ∧ Blk wq w.heap.size 45 (By b).toArray ∧ Blk wq (w.heap.size + 1) 110 z5 ∧ Blk wq (w.heap.size + 1 + 1) 108 (Us W).toArray ∧ Blk wq g 110 (Us (mx (fun i=>le b / 2251799813685248 ^ i % 2251799813685248) [0,0,0,0,0] k)).toArray ∧ Below w.heap.size w wq) (fun i _=>5 - (intOf i).toNat)
   case atStart =>
    obtain ⟨k0,k1,k2,kb,hbn⟩:=HK.out;exact ⟨0,by omega,rfl,k0 _,k1 _,k2 _,hbn _,kb _⟩
   case round =>
    clear HK hg;obtain ⟨k,hk,rfl,h0,h1,h2,h3,hbel⟩:=hrel
    by_cases hlt : k < 5
    ·have hN:=mx_set (fun i=>le b / 2251799813685248 ^ i % 2251799813685248) [0,0,0,0,0] (k:=k)
     have hlb:=lb_words hL hlt;have c0:=(h2.drew.cell (51 * k / 64)).trans (Us_at (by omega));have c1:=(h2.drew.cell (51 * k / 64 + 1)).trans (Us_at (by omega));rw [hW _ (by omega)] at c0 c1;have hc:=(h3.drew.cell k).trans (Us_at (by rw [mx_len]; omega));have hf:=h3.drew.free k
     have qA : IntKind.i64.wrap (51 * (k : Int)) = ((51 * k : Nat) : Int):=by rw [i64_left,wrap64_in _ (by omega)]; omega
     have qd : ((51 * k : Nat) : Int).tdiv 64 = ((51 * k / 64 : Nat) : Int):=rfl;have qm : ((51 * k : Nat) : Int).tmod 64 = ((51 * k % 64 : Nat) : Int):=rfl
     have qs : IntKind.i64.wrap (((51 * k / 64 : Nat) : Int) + 1) = ((51 * k / 64 + 1 : Nat) : Int):=by rw [i64_left,wrap64_in _ (by omega)]; omega
     have qt : IntKind.i64.wrap (64 - ((51 * k % 64 : Nat) : Int)) = ((64 - 51 * k % 64 : Nat) : Int):=by rw [i64_left,wrap64_in _ (by omega)]; omega
     have q5 : IntKind.i64.wrap ((51 * k / 64 : Nat) : Int) = ((51 * k / 64 : Nat) : Int):=by rw [i64_left,wrap64_in _ (by omega)]
     have q6 : IntKind.i64.wrap ((51 * k % 64 : Nat) : Int) = ((51 * k % 64 : Nat) : Int):=by rw [i64_left,wrap64_in _ (by omega)]
     have g1 : ((51 * k / 64 + 1 : Nat) : Int) < 5:=by omega
     have g2 : ((51 * k / 64 : Nat) : Int) < 5:=by omega
     have g3 : ((51 * k % 64 : Nat) : Int) ≤ 64:=by omega
     have g4 : ((64 - 51 * k % 64 : Nat) : Int) ≤ 64:=by omega
     have g5 : (0 : Int) ≤ (k : Int):=by omega
     have HK:=Lib.hid (And.intro h0 (And.intro h1 (And.intro h2 (And.intro h3 (And.intro hbel (And.intro hN hL))))));have HW:=Lib.hid hW;clear h0 h1 h2 h3 hbel hN hL hW;generalize le b / 2251799813685248 ^ k % 2251799813685248 = nw at *;generalize wd (le b) (51 * k / 64) = u at *;generalize wd (le b) (51 * k / 64 + 1) = v at *;generalize 64 - 51 * k % 64 = t at *;generalize 51 * k % 64 = r at *;generalize 51 * k / 64 + 1 = q1 at *;generalize 51 * k / 64 = q at *;generalize 51 * k = A at *
     go_wp2
     go_still_tail 21,(by kernel_rfl)
     go_wp2
     go_roundw
     case rel =>
      obtain ⟨h0,h1,h2,h3,hbel,hN,hL⟩:=HK.out;have h4:=h3.set k (.int .u64 (nw : Int));rw [Us_set,hN] at h4;exact ⟨k + 1,by omega,by go_num,h0.far (by simp; omega) _,h1.far (by simp; omega) _,h2.far (by simp; omega) _,h4,(hbel.setCell (by simp; omega) _).drew⟩
     case measure=>simp [intOf]; omega
    ·obtain rfl : k = 5:=by omega
     rw [← lbs_mx] at h3;obtain ⟨hE,hq,HH⟩:=HE.out
     have hzb : (By b).toArray.size = 32:=by rw [List.size_toArray,By_len,hbl]
     have hzl:=len_us hE.len;clear hW hwl hT hL HE h2;generalize lbs (le b) = l at *;have HK2:=Lib.hid (And.intro hE hbel);clear hE hbel
     go_wp2
     refine reg_q (by kernel_rfl) (tail_ok (by kernel_rfl)) (fun _ _ d _ _ h=>by cases d <;> exact h) ?_;refine b_el g (by simpa [Us_len] using hzl) _ rfl rfl rfl (fun _ h=>h.blk h3) ?_; simp only [Act.put,List.setIfInBounds_toArray,List.set_cons_zero,List.set_cons_succ];refine b_one rfl own_hash (fun w1=>HH w1) rfl rfl ?_; simp only [Act.put,List.setIfInBounds_toArray,List.set_cons_zero,List.set_cons_succ];refine b_mid rfl 45 _ rfl w.heap.size 0 rfl (By b) _ (fun _ h=>(h.blk h0).range) Tryz.underlying45 rfl (size_hash (By b).toArray hzb) ?_; simp only [Act.put,List.setIfInBounds_toArray,List.set_cons_zero,List.set_cons_succ];refine b_neq (By ez).toArray (By b).toArray rfl rfl rfl rfl (by kernel_rfl) hq ?_; simp only [Act.put,List.setIfInBounds_toArray,List.set_cons_zero,List.set_cons_succ];refine wpB_nil ?_
     intro w1 hw1
     have j1:=hw1.blk h1;have j3:=hw1.blk h3;have hsz:=hw1.size;have HU:=Lib.hid hw1;clear h0 h1 h3 HH hq hw1
     cases ok with
     | true =>
      go_wp2_with (first
       | (refine wpList_load_row rfl 110 _ rfl g rfl 110 (Us l).toArray (0,0) _ j3 Tryz.underlying110 rfl (size_el _ hzl) ?_)
       | (refine wpList_store_row rfl 110 _ _ rfl (w.heap.size + 1) rfl (Us l).toArray rfl 110 _ j1 (size_el _ hzl) (by rw [hzl]; rfl) (Us_one _) ?_))
      obtain ⟨hE,hbel⟩:=HK2.out;refine bodyPost_ret (results_cell_tmp rfl _ _ (w.heap.size + 1) 110 (Us l).toArray (0,0) _ (.bool true) rfl rfl (j1.row _) Tryz.underlying110 rfl (size_el _ hzl)) rfl ⟨⟨l,hE,rfl⟩,?_⟩;exact below_setRow (below_up hbel HU.out) (by omega) _
     | false =>
      go_wp2_with (first
       | (refine wpl_build [] z5 rfl rfl rfl built_zero ?_)
       | (refine wpList_store_row rfl 110 _ _ rfl (w.heap.size + 1) rfl z5 rfl 110 _ j1 (size_el _ rfl) rfl (Us_one _) ?_))
      obtain ⟨hE,hbel⟩:=HK2.out;refine bodyPost_ret (results_cell_tmp rfl _ _ (w.heap.size + 1) 110 z5 (0,0) _ (.bool false) rfl rfl (j1.row _) Tryz.underlying110 rfl (size_el _ rfl)) rfl ⟨rfl,?_⟩;exact below_setRow (below_up hbel HU.out) (by omega) _
end Go.Proofs.YtlcbhbahchiofaaGreatDoor
/-
  THE PROGRAM'S POINTS: at, factor, Base.
-/
namespace Go.Proofs.YtlcbhbahchiofaaGreatDoor
open Go.RowKit Go.IntWalk Nums

theorem small1_f (w : World) : Calls Tryz.prog 93 #[.int .u64 1] w fun e w'=>∃ r,EB r 1 ∧ e = .returned (.agg (Us r).toArray) ∧ Below w.heap.size w w':=by
 have h:=small_f 1 (by omega) w;rw [fof_one] at h;exact h
def facB : List UInt8:=[163,120,89,19,202,77,235,117,171,216,65,65,77,10,112,0,152,232,121,119,121,64,199,140,115,254,111,43,238,108,3,82]
def bxB : List UInt8:=[26,213,37,143,96,45,86,201,178,167,37,149,96,199,44,105,92,220,214,253,49,226,164,192,254,83,110,205,211,54,105,33]
def byB : List UInt8:=[88,102,102,102,102,102,102,102,102,102,102,102,102,102,102,102,102,102,102,102,102,102,102,102,102,102,102,102,102,102,102,102]
theorem new_const {b : List UInt8} {x : F} (hb : b.length = 32) (hg : isGood b = true) (hx : fof (le b % 57896044618658097711785492504343953926634992332820282019728792003956564819968) = x) (w : World) :
  Calls Tryz.prog 72 #[.agg (By b).toArray] w fun e w'=>∃ r,EB r x ∧ e = .returned (.tuple #[.agg (Us r).toArray,.bool true]) ∧ Below w.heap.size w w' :=
 (new_f hb w).mono fun e w' ⟨h,hw⟩=>by
  rcases h with ⟨_,r,hr,he⟩ | ⟨h,_⟩
  ·exact ⟨r,hx ▸ hr,he,hw⟩
  ·rw [hg] at h
   cases h
theorem good_fac : isGood facB = true:=by decide +kernel
theorem good_bx : isGood bxB = true:=by decide +kernel
theorem good_by : isGood byB = true:=by decide +kernel
theorem le_fac : fof (le facB % 57896044618658097711785492504343953926634992332820282019728792003956564819968) = dd:=fof_eq (by decide +kernel)
theorem le_bx : fof (le bxB % 57896044618658097711785492504343953926634992332820282019728792003956564819968) = fof bx:=fof_eq (by decide +kernel)
theorem le_by : fof (le byB % 57896044618658097711785492504343953926634992332820282019728792003956564819968) = fof bY:=fof_eq (by decide +kernel)

set_option maxRecDepth 100000 in
set_option maxHeartbeats 1000000 in
theorem at_f {X Y : List Nat} {x y : F} (hX : EB X x) (hY : EB Y y) (hon : Ed.On dd ⟨x,y⟩) (w : World) :
  Calls Tryz.prog 73 #[.agg (Us X).toArray,.agg (Us Y).toArray] w fun e w'=>∃ r,QB r ⟨x,y⟩ ∧ e = .returned (.agg (Us r).toArray) ∧ Below w.heap.size w w':=by
 refine calls_F (vs:=[.agg (Us X).toArray,.agg (Us Y).toArray]) 12 Tryz.func73 rfl (by rw [Tryz.ntmps73]; rfl) ?_;refine c_seq fun K hK=>?_;refine c_lit ?_;refine l_boxA ((Us X).toArray) rfl rfl rfl rfl rfl fun W1 g1 hw1 hg1 b1=>?_;clear hg1;have hU : Up w _:=hw1;refine l_boxA ((Us Y).toArray) rfl rfl rfl rfl rfl fun W2 g2 hw2 hg2 b2=>?_;clear hg2;replace b1:=b1.later hw2;replace hU:=hU.step hw2;refine l_allocA ((Us pz).toArray) rfl rfl rfl rfl (by kernel_rfl) fun W3 g3 hw3 hg3 b3=>?_
 have q3 : w.heap.size ≤ g3:=by rw [hg3]; exact hU.size
 clear hg3;replace b1:=b1.later hw3;replace b2:=b2.later hw3;replace hU:=hU.step hw3;refine l_nil ?_;refine hK _ _ ?_;clear hK K;refine c_seq fun K hK=>?_;refine c_t 7 (by decide) (by kernel_rfl) (tail_ok (by kernel_rfl)) (fun _ _ d _ _ h=>by cases d <;> exact h) ?_;refine f_el g1 0 hX.len rfl rfl rfl rfl rfl (fun _ h1=>(h1.blk b1).range) ?_;refine f_el g2 0 hY.len rfl rfl rfl rfl rfl (fun _ h1=>(h1.blk b2).range) ?_;refine f_us #[.int .u64 1] (EB · 1) rfl rfl rfl own_small (fun w1 _=>small1_f w1) rfl rfl fun r7 v7=>?_;refine f_el g1 0 hX.len rfl rfl rfl rfl rfl (fun _ h1=>(h1.blk b1).range) ?_;refine f_el g2 0 hY.len rfl rfl rfl rfl rfl (fun _ h1=>(h1.blk b2).range) ?_;refine f_us #[.agg (Us X).toArray,.agg (Us Y).toArray] (EB · (x * y)) rfl rfl rfl own_elmul (fun w1 h1=>elmul_f hX hY w1) rfl rfl fun r10 v10=>?_;refine f_build [(0,.agg (Us X).toArray),(1,.agg (Us Y).toArray),(2,.agg (Us r7).toArray),(3,.agg (Us r10).toArray)] (Us (pc X Y r7 r10)).toArray rfl rfl rfl rfl rfl (builtP4 hX.len hY.len v7.len v10.len) ?_;refine f_set g3 _ ((Us (pc X Y r7 r10)).toArray) rfl rfl rfl rfl rfl b3 (size_P (pc_len hX.len hY.len v7.len v10.len)) ((us_size pz_len).trans (us_size (pc_len hX.len hY.len v7.len v10.len)).symm) (Us_oneA _) fun w4 hw4 c4=>?_;replace b3:=c4;replace hU:=up_row (hU.step hw4) q3 ((Us (pc X Y r7 r10)).toArray);clear hw4 c4;generalize w4.setRow g3 ((Us (pc X Y r7 r10)).toArray) = W4 at *;refine l_nil ?_;refine hK _ _ ?_;clear hK K;refine c_ret (k_ret_row g3 _ rfl rfl b3 Tryz.underlying112 rfl (size_P (pc_len hX.len hY.len v7.len v10.len)) ⟨_,⟨⟨X,Y,r7,r10,x,y,1,x * y,rfl,hX,hY,v7,v10,Ed.Rep.one prime_p x y,by grind only⟩,hon⟩,rfl,hU⟩)
set_option maxRecDepth 100000 in
set_option maxHeartbeats 1000000 in
theorem factor_f  (w : World) :
  Calls Tryz.prog 107 #[] w fun e w'=>∃ r,EB r dd ∧ e = .returned (.agg (Us r).toArray) ∧ Below w.heap.size w w':=by
 refine calls_F (vs:=[]) 9 Tryz.func107 rfl (by rw [Tryz.ntmps107]; rfl) ?_;refine c_seq fun K hK=>?_;refine c_lit ?_;refine l_allocA z5 rfl rfl rfl rfl (by kernel_rfl) fun W1 g1 hw1 hg1 b1=>?_
 have q1 : w.heap.size ≤ g1:=by rw [hg1]; exact Nat.le_refl _
 clear hg1;have hU : Up w _:=hw1;refine l_nil ?_;refine hK _ _ ?_;clear hK K;refine c_seq fun K hK=>?_;refine c_newF 5 [nvE 1] (by decide) ⟨⟨rfl,rfl,rfl,rfl,by kernel_rfl⟩,trivial⟩ ?_;refine f_build [(0,.int .u8 163),(1,.int .u8 120),(2,.int .u8 89),(3,.int .u8 19),(4,.int .u8 202),(5,.int .u8 77),(6,.int .u8 235),(7,.int .u8 117),(8,.int .u8 171),(9,.int .u8 216),(10,.int .u8 65),(11,.int .u8 65),(12,.int .u8 77),(13,.int .u8 10),(14,.int .u8 112),(15,.int .u8 0),(16,.int .u8 152),(17,.int .u8 232),(18,.int .u8 121),(19,.int .u8 119),(20,.int .u8 121),(21,.int .u8 64),(22,.int .u8 199),(23,.int .u8 140),(24,.int .u8 115),(25,.int .u8 254),(26,.int .u8 111),(27,.int .u8 43),(28,.int .u8 238),(29,.int .u8 108),(30,.int .u8 3),(31,.int .u8 82)] (By facB).toArray rfl rfl rfl rfl rfl (by kernel_rfl) ?_;refine f_tup #[.agg (By facB).toArray] dd rfl rfl rfl own_elnew (fun w1 _=>new_const rfl good_fac le_fac w1) rfl rfl fun r5 v5=>?_;refine f_move (.tuple #[.agg (Us r5).toArray,.bool true]) rfl rfl rfl rfl rfl ?_;refine f_extract (.agg (Us r5).toArray) rfl rfl rfl rfl rfl rfl ?_;refine f_extract (.bool true) rfl rfl rfl rfl rfl rfl ?_;refine f_new [.tmp 6] [(Us r5).toArray] ⟨rfl,trivial⟩ (by decide) ⟨⟨rfl,rfl,rfl⟩,rfl⟩ ⟨⟨rfl,(us_size zl_len).trans (us_size v5.len).symm,size_E v5.len,Us_oneA _⟩,trivial⟩ fun f2 W2 hg2 hd2 hw2 hb2=>?_;have b200 : Blk W2 (f2 0) 110 ((Us r5).toArray):=hb2.1;clear hb2;replace b1:=b1.later hw2;replace hU:=hU.step hw2;clear hg2 hd2 hw2;generalize hf200 : f2 0 = g200 at *;simp only [ptrs,hf200];clear hf200 f2;refine l_assign (.bool true) rfl rfl rfl rfl rfl ?_;refine l_nil ?_;refine k_sub (E':=[(0,.pointer (some ⟨g1,0,none⟩)),(1,.pointer (some ⟨g200,0,none⟩))]) ⟨rfl,rfl,trivial⟩ ?_;refine hK _ _ ?_;clear hK K;refine c_seq fun K hK=>?_;refine c_tF 1 ?_;refine f_el g200 0 v5.len rfl rfl rfl rfl rfl (fun _ h1=>(h1.blk b200).range) ?_;refine f_set g1 _ ((Us r5).toArray) rfl rfl rfl rfl rfl b1 (size_E v5.len) ((us_size zl_len).trans (us_size v5.len).symm) (Us_oneA _) fun w3 hw3 c3=>?_;replace b1:=c3;replace hU:=up_row (hU.step hw3) q1 ((Us r5).toArray);clear hw3 c3;generalize w3.setRow g1 ((Us r5).toArray) = W3 at *;refine l_nil ?_;refine hK _ _ ?_;clear hK K;refine c_ret (k_ret_row g1 _ rfl rfl b1 Tryz.underlying110 rfl (size_E v5.len) ⟨_,v5,rfl,hU⟩)
set_option maxRecDepth 100000 in
set_option maxHeartbeats 1000000 in
theorem cbase_f  (w : World) :
  Calls Tryz.prog 60 #[] w fun e w'=>∃ r,QB r base ∧ e = .returned (.agg (Us r).toArray) ∧ Below w.heap.size w w':=by
 refine calls_F (vs:=[]) 18 Tryz.func60 rfl (by rw [Tryz.ntmps60]; rfl) ?_;refine c_seq fun K hK=>?_;refine c_lit ?_;refine l_allocA ((Us pz).toArray) rfl rfl rfl rfl (by kernel_rfl) fun W1 g1 hw1 hg1 b1=>?_
 have q1 : w.heap.size ≤ g1:=by rw [hg1]; exact Nat.le_refl _
 clear hg1;have hU : Up w _:=hw1;refine l_nil ?_;refine hK _ _ ?_;clear hK K;refine c_seq fun K hK=>?_;refine c_newF 5 [nvE 1] (by decide) ⟨⟨rfl,rfl,rfl,rfl,by kernel_rfl⟩,trivial⟩ ?_;refine f_build [(0,.int .u8 26),(1,.int .u8 213),(2,.int .u8 37),(3,.int .u8 143),(4,.int .u8 96),(5,.int .u8 45),(6,.int .u8 86),(7,.int .u8 201),(8,.int .u8 178),(9,.int .u8 167),(10,.int .u8 37),(11,.int .u8 149),(12,.int .u8 96),(13,.int .u8 199),(14,.int .u8 44),(15,.int .u8 105),(16,.int .u8 92),(17,.int .u8 220),(18,.int .u8 214),(19,.int .u8 253),(20,.int .u8 49),(21,.int .u8 226),(22,.int .u8 164),(23,.int .u8 192),(24,.int .u8 254),(25,.int .u8 83),(26,.int .u8 110),(27,.int .u8 205),(28,.int .u8 211),(29,.int .u8 54),(30,.int .u8 105),(31,.int .u8 33)] (By bxB).toArray rfl rfl rfl rfl rfl (by kernel_rfl) ?_;refine f_tup #[.agg (By bxB).toArray] (fof bx) rfl rfl rfl own_elnew (fun w1 _=>new_const rfl good_bx le_bx w1) rfl rfl fun r7 v7=>?_;refine f_move (.tuple #[.agg (Us r7).toArray,.bool true]) rfl rfl rfl rfl rfl ?_;refine f_extract (.agg (Us r7).toArray) rfl rfl rfl rfl rfl rfl ?_;refine f_extract (.bool true) rfl rfl rfl rfl rfl rfl ?_;refine f_new [.tmp 8] [(Us r7).toArray] ⟨rfl,trivial⟩ (by decide) ⟨⟨rfl,rfl,rfl⟩,rfl⟩ ⟨⟨rfl,(us_size zl_len).trans (us_size v7.len).symm,size_E v7.len,Us_oneA _⟩,trivial⟩ fun f2 W2 hg2 hd2 hw2 hb2=>?_;have b200 : Blk W2 (f2 0) 110 ((Us r7).toArray):=hb2.1;clear hb2;replace b1:=b1.later hw2;replace hU:=hU.step hw2;clear hg2 hd2 hw2;generalize hf200 : f2 0 = g200 at *;simp only [ptrs,hf200];clear hf200 f2;refine l_assign (.bool true) rfl rfl rfl rfl rfl ?_;refine l_nil ?_;refine k_sub (E':=[(0,.pointer (some ⟨g1,0,none⟩)),(1,.pointer (some ⟨g200,0,none⟩))]) ⟨rfl,rfl,trivial⟩ ?_;refine hK _ _ ?_;clear hK K;refine c_seq fun K hK=>?_;refine c_newF 5 [nvE 3] (by decide) ⟨⟨rfl,rfl,rfl,rfl,by kernel_rfl⟩,trivial⟩ ?_;refine f_build [(0,.int .u8 88),(1,.int .u8 102),(2,.int .u8 102),(3,.int .u8 102),(4,.int .u8 102),(5,.int .u8 102),(6,.int .u8 102),(7,.int .u8 102),(8,.int .u8 102),(9,.int .u8 102),(10,.int .u8 102),(11,.int .u8 102),(12,.int .u8 102),(13,.int .u8 102),(14,.int .u8 102),(15,.int .u8 102),(16,.int .u8 102),(17,.int .u8 102),(18,.int .u8 102),(19,.int .u8 102),(20,.int .u8 102),(21,.int .u8 102),(22,.int .u8 102),(23,.int .u8 102),(24,.int .u8 102),(25,.int .u8 102),(26,.int .u8 102),(27,.int .u8 102),(28,.int .u8 102),(29,.int .u8 102),(30,.int .u8 102),(31,.int .u8 102)] (By byB).toArray rfl rfl rfl rfl rfl (by kernel_rfl) ?_;refine f_tup #[.agg (By byB).toArray] (fof bY) rfl rfl rfl own_elnew (fun w1 _=>new_const rfl good_by le_by w1) rfl rfl fun r12 v12=>?_;refine f_move (.tuple #[.agg (Us r12).toArray,.bool true]) rfl rfl rfl rfl rfl ?_;refine f_extract (.agg (Us r12).toArray) rfl rfl rfl rfl rfl rfl ?_;refine f_extract (.bool true) rfl rfl rfl rfl rfl rfl ?_
 refine f_new [.tmp 13] [(Us r12).toArray] ⟨rfl,trivial⟩ (by decide) ⟨⟨rfl,rfl,rfl⟩,rfl⟩ ⟨⟨rfl,(us_size zl_len).trans (us_size v12.len).symm,size_E v12.len,Us_oneA _⟩,trivial⟩ fun f3 W3 hg3 hd3 hw3 hb3=>?_;have b300 : Blk W3 (f3 0) 110 ((Us r12).toArray):=hb3.1;clear hb3;replace b1:=b1.later hw3;replace b200:=b200.later hw3;replace hU:=hU.step hw3;clear hg3 hd3 hw3;generalize hf300 : f3 0 = g300 at *;simp only [ptrs,hf300];clear hf300 f3;refine l_assign (.bool true) rfl rfl rfl rfl rfl ?_;refine l_nil ?_;refine k_sub (E':=[(0,.pointer (some ⟨g1,0,none⟩)),(1,.pointer (some ⟨g200,0,none⟩)),(3,.pointer (some ⟨g300,0,none⟩))]) ⟨rfl,rfl,rfl,trivial⟩ ?_;refine hK _ _ ?_;clear hK K;refine c_seq fun K hK=>?_;refine c_tF 3 ?_;refine f_el g200 0 v7.len rfl rfl rfl rfl rfl (fun _ h1=>(h1.blk b200).range) ?_;refine f_el g300 0 v12.len rfl rfl rfl rfl rfl (fun _ h1=>(h1.blk b300).range) ?_;refine f_us #[.agg (Us r7).toArray,.agg (Us r12).toArray] (QB · ⟨fof bx,fof bY⟩) rfl rfl rfl own_at (fun w1 h1=>at_f v7 v12 on_base w1) rfl rfl fun r17 v17=>?_;refine f_set g1 _ ((Us r17).toArray) rfl rfl rfl rfl rfl b1 (size_P v17.len) ((us_size pz_len).trans (us_size v17.len).symm) (Us_oneA _) fun w4 hw4 c4=>?_;replace b1:=c4;replace hU:=up_row (hU.step hw4) q1 ((Us r17).toArray);clear hw4 c4;generalize w4.setRow g1 ((Us r17).toArray) = W4 at *;refine l_nil ?_;refine hK _ _ ?_;clear hK K;refine c_ret (k_ret_row g1 _ rfl rfl b1 Tryz.underlying112 rfl (size_P v17.len) ⟨_,v17,rfl,hU⟩)
end Go.Proofs.YtlcbhbahchiofaaGreatDoor
