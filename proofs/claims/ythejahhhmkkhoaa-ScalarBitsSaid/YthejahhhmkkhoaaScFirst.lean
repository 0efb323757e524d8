/-
  THE SCALARS' LAWS: steps of their walks: the document's own answers of any numbers; what must be answered ahead of everything else.
-/
import Derived.Test.YthejahhhmkkhoaaScNew
import Derived.Test.YthejahhhmkkhoaaSc
import Derived.Test.YthejahhhmkkhoaaScAdd
import Derived.Test.YthejahhhmkkhoaaScMul
namespace Go.Proofs.Ythejahhhmkkhoaa
open Go.RowKit Go.IntWalk Nums

theorem own_radd : Own 13 := fun _ _ => by go_simp
theorem own_rmul : Own 15 := fun _ _ => by go_simp
theorem own_rgood : Own 17 := fun _ _ => by go_simp

theorem modL (n : Nat) : n % LL < LL := Nat.mod_lt _ (by decide)
theorem le_bytes32 {n : Nat} (h : n < LL) : le (Nums.bytes 32 n) = n := by
  rw [le_bytes, Nat.mod_eq_of_lt (Nat.lt_trans h (by decide))]
theorem rmod32_f {l : List UInt8} (hl : l.length = 32) (g t : Nat) (w : World) (h : Blk w g t (By l).toArray) :
    Calls Try.prog 11 #[.slice (some ⟨g, 0, none⟩) 32 32] w fun e w' => e = .returned (.agg (By (Nums.bytes 32 (le l % LL))).toArray) ∧ Below w.heap.size w w' := by
  have hm := mod_any l g 32 w (by omega) (WL.row h).1
  rw [hl] at hm
  exact hm
theorem rmod64_f {l : List UInt8} (hl : l.length = 64) (g t : Nat) (w : World) (h : Blk w g t (By l).toArray) :
    Calls Try.prog 11 #[.slice (some ⟨g, 0, none⟩) 64 64] w fun e w' => e = .returned (.agg (By (Nums.bytes 32 (le l % LL))).toArray) ∧ Below w.heap.size w w' := by
  have hm := mod_any l g 64 w (by omega) (WL.row h).1
  rw [hl] at hm
  exact hm
theorem radd_f {x y : Nat} (hx : x < LL) (hy : y < LL) (w : World) :
    Calls Try.prog 13 #[.agg (By (Nums.bytes 32 x)).toArray, .agg (By (Nums.bytes 32 y)).toArray] w fun e w' => e = .returned (.agg (By (Nums.bytes 32 ((x + y) % LL))).toArray) ∧ Below w.heap.size w w' := by
  have h := add4_f (Nums.bytes 32 x) (Nums.bytes 32 y) (bytes_len _ _) (bytes_len _ _) w
  rw [le_bytes32 hx, le_bytes32 hy] at h
  exact h
theorem rmul_f {x y : Nat} (hx : x < LL) (hy : y < LL) (w : World) :
    Calls Try.prog 15 #[.agg (By (Nums.bytes 32 x)).toArray, .agg (By (Nums.bytes 32 y)).toArray] w fun e w' => e = .returned (.agg (By (Nums.bytes 32 (x * y % LL))).toArray) ∧ Below w.heap.size w w' := by
  have h := mul4_f (Nums.bytes 32 x) (Nums.bytes 32 y) (bytes_len _ _) (bytes_len _ _) w
  rw [le_bytes32 hx, le_bytes32 hy] at h
  exact h

section
variable {ops : Array Oper} {C0 : World → Prop} {Q : Act → Prop} {a : Act} {o : Oper} {rest : List Oper}
/-- Two numbers' bytes that are equal. -/
theorem b_eqn {t t' : TypeId} {x y : Operand} (n m : Nat) (h : n = m) (hg : Region.wanted o (yielded ops a.tmps) = true) (ho : o.op = .binOp .eql t x y t') (ht : t = 22) (hx : a.eval x = .agg (By (Nums.bytes 32 n)).toArray) (hy : a.eval y = .agg (By (Nums.bytes 32 m)).toArray)
    (hk : wpB Try.prog ops C0 Q rest (a.put o.dst (.bool true))) : wpB Try.prog ops C0 Q (o :: rest) a := by
  subst h
  exact b_eqh (Nums.bytes 32 n) (bytes_len _ _) hg ho ht hx hy hk
theorem b_moveV {x : Operand} (v : Value) (hg : Region.wanted o (yielded ops a.tmps) = true) (ho : o.op = .move x) (hx : a.eval x = v) (hk : wpB Try.prog ops C0 Q rest (a.put o.dst v)) : wpB Try.prog ops C0 Q (o :: rest) a := by
  subst hx
  exact b_move hg ho hk
theorem wpl_assignV {QQ : Exit → Act → World → Prop} {w : World} {x : Operand} (v : Value) (hg : o.guard = none) (ho : o.op = .assign x) (hx : a.eval x = v) (h : wpList Try.prog ops QQ rest (a.put o.dst v) w) : wpList Try.prog ops QQ (o :: rest) a w := by
  subst hx
  exact wpl_assign hg ho h
/-- An array's slice. -/
theorem b_slice32 {x : Operand} (g : Nat) (hg : Region.wanted o (yielded ops a.tmps) = true) (ho : o.op = .slice 22 x none none none) (hx : a.eval x = .pointer (some ⟨g, 0, none⟩))
    (hk : wpB Try.prog ops C0 Q rest (a.put o.dst (.slice (some ⟨g, 0, none⟩) 32 32))) : wpB Try.prog ops C0 Q (o :: rest) a :=
  b_val hg (fun w _ => by
    unfold execOp
    simp only [ho, hx]
    go_simp) hk
theorem b_slice64 {x : Operand} (g : Nat) (hg : Region.wanted o (yielded ops a.tmps) = true) (ho : o.op = .slice 35 x none none none) (hx : a.eval x = .pointer (some ⟨g, 0, none⟩))
    (hk : wpB Try.prog ops C0 Q rest (a.put o.dst (.slice (some ⟨g, 0, none⟩) 64 64))) : wpB Try.prog ops C0 Q (o :: rest) a :=
  b_val hg (fun w _ => by
    unfold execOp
    simp only [ho, hx]
    go_simp) hk
end

theorem built_b5 : Try.prog.built 22 [(0, .int .u8 5)] = some (By (Nums.bytes 32 5)).toArray := by kernel_rfl
theorem built_b10 : Try.prog.built 22 [(0, .int .u8 10)] = some (By (Nums.bytes 32 10)).toArray := by kernel_rfl
theorem built_b25 : Try.prog.built 22 [(0, .int .u8 25)] = some (By (Nums.bytes 32 25)).toArray := by kernel_rfl
theorem built_b1 : Try.prog.built 22 [(0, .int .u8 1)] = some (By (Nums.bytes 32 1)).toArray := by kernel_rfl
theorem built_b0 : Try.prog.built 22 [] = some (By (Nums.bytes 32 0)).toArray := by kernel_rfl
theorem scnew_n {n : Nat} (h : n < LL) (w : World) :
    Calls Try.prog 16 #[.agg (By (Nums.bytes 32 n)).toArray] w fun e w' => e = .returned (.tuple #[.agg (Us (ws n)).toArray, .bool true]) ∧ Below w.heap.size w w' := by
  have h1 := scnew_f (b := Nums.bytes 32 n) (bytes_len _ _) w
  rw [le_bytes32 h, if_pos h, decide_eq_true h] at h1
  exact h1

set_option maxRecDepth 100000 in
set_option maxHeartbeats 1000000 in
theorem first4_f (w : World) :
    Calls Try.prog 8 #[] w fun e w' => e = .returned (.bool true) ∧ Below w.heap.size w w' := by
  have h5 : 5 < LL := by decide
  have e25 : 5 * 5 % LL = 25 := by decide
  have e10 : (5 + 5) % LL = 10 := by decide
  go_enter Try.func8, Try.ntmps8
  refine wp_seq_k fun K hK => ?_
  refine wp_region_lit ?_
  refine wpl_assign rfl rfl ?_
  refine wpl_nil ?_
  go_simp
  refine hK _ _ ?_
  clear hK K
  refine wp_at (fun W => Below w.heap.size w W) (Below.refl _ _) ?_
  rintro W hbe
  -- walk first
  refine wp_seq_k fun K hK => ?_
  refine reg_tailF 5 ?_
  simp only [List.take_succ_cons, List.take_zero, List.drop_succ_cons, List.drop_zero]
  refine b_build _ _ rfl rfl rfl built_b5 ?_
  simp only [Act.put, List.setIfInBounds_toArray, List.set_cons_zero, List.set_cons_succ]
  refine b_one rfl own_scnew (fun w1 => scnew_n (n := 5) (by decide) w1) rfl rfl ?_
  simp only [Act.put, List.setIfInBounds_toArray, List.set_cons_zero, List.set_cons_succ]
  refine b_moveV (.tuple #[.agg (Us (ws 5)).toArray, .bool true]) rfl rfl rfl ?_
  simp only [Act.put, List.setIfInBounds_toArray, List.set_cons_zero, List.set_cons_succ]
  refine b_extract (.agg (Us (ws 5)).toArray) rfl rfl rfl rfl ?_
  simp only [Act.put, List.setIfInBounds_toArray, List.set_cons_zero, List.set_cons_succ]
  refine b_extract (.bool true) rfl rfl rfl rfl ?_
  simp only [Act.put, List.setIfInBounds_toArray, List.set_cons_zero, List.set_cons_succ]
  refine wpB_nil ?_
  intro W0 hw0
  refine wpl_alloc (zs := z4) rfl rfl (by kernel_rfl) ?_
  simp only [Act.put, List.setIfInBounds_toArray, List.set_cons_zero, List.set_cons_succ]
  have hb0 := Blk.new W0 27 z4
  have hg0 := hw0.size
  have hw1 := hw0.alloc (Obj.cells z4 27)
  clear hw0
  generalize W0.alloc (Obj.cells z4 27) = W1 at *
  generalize W0.heap.size = gx at *
  refine wpList_store_row rfl 27 _ _ rfl gx rfl (Us (ws 5)).toArray rfl 27 _ hb0 (size_sc _ (len_u4 (ws_len _))) (len_u4 (ws_len _)).symm (Us_one _) ?_
  refine wpl_assignV (.bool true) rfl rfl rfl ?_
  refine wpl_nil ?_
  simp only [Exit.then, Act.put, List.setIfInBounds_toArray, List.set_cons_zero, List.set_cons_succ]
  refine hK _ _ ?_
  clear hK K
  have hbx := hb0.row (Us (ws 5)).toArray
  have hbe := below_setRow (below_up hbe hw1) (Nat.le_trans hbe.size hg0) (Us (ws 5)).toArray
  clear hw1 hb0
  generalize World.setRow _ gx (Us (ws 5)).toArray = W2 at *
  refine wp_seq_k fun K hK => ?_
  refine reg_qF ?_
  refine b_move rfl rfl ?_
  simp only [Act.put, List.setIfInBounds_toArray, List.set_cons_zero, List.set_cons_succ]
  refine b_move rfl rfl ?_
  simp only [Act.put, List.setIfInBounds_toArray, List.set_cons_zero, List.set_cons_succ]
  refine b_sc gx (ws_len _) _ rfl rfl rfl (fun _ h => h.blk hbx) ?_
  simp only [Act.put, List.setIfInBounds_toArray, List.set_cons_zero, List.set_cons_succ]
  refine b_sc gx (ws_len _) _ rfl rfl rfl (fun _ h => h.blk hbx) ?_
  simp only [Act.put, List.setIfInBounds_toArray, List.set_cons_zero, List.set_cons_succ]
  refine b_one rfl own_scmul (fun w1 => scmul_f h5 h5 w1) rfl rfl ?_
  simp only [Act.put, List.setIfInBounds_toArray, List.set_cons_zero, List.set_cons_succ]
  refine b_one rfl own_schash (fun w1 => schash_f (5 * 5 % LL) w1) rfl rfl ?_
  simp only [Act.put, List.setIfInBounds_toArray, List.set_cons_zero, List.set_cons_succ]
  refine b_build _ _ rfl rfl rfl built_b25 ?_
  simp only [Act.put, List.setIfInBounds_toArray, List.set_cons_zero, List.set_cons_succ]
  refine b_eqn (5 * 5 % LL) 25 (e25) rfl rfl rfl rfl rfl ?_
  simp only [Act.put, List.setIfInBounds_toArray, List.set_cons_zero, List.set_cons_succ]
  refine b_pick rfl rfl rfl ?_
  simp only [Act.put, List.setIfInBounds_toArray, List.set_cons_zero, List.set_cons_succ]
  refine b_move rfl rfl ?_
  simp only [Act.put, List.setIfInBounds_toArray, List.set_cons_zero, List.set_cons_succ]
  refine b_sc gx (ws_len _) _ rfl rfl rfl (fun _ h => h.blk hbx) ?_
  simp only [Act.put, List.setIfInBounds_toArray, List.set_cons_zero, List.set_cons_succ]
  refine b_sc gx (ws_len _) _ rfl rfl rfl (fun _ h => h.blk hbx) ?_
  simp only [Act.put, List.setIfInBounds_toArray, List.set_cons_zero, List.set_cons_succ]
  refine b_one rfl own_scadd (fun w1 => scadd_f h5 h5 w1) rfl rfl ?_
  simp only [Act.put, List.setIfInBounds_toArray, List.set_cons_zero, List.set_cons_succ]
  refine b_one rfl own_schash (fun w1 => schash_f ((5 + 5) % LL) w1) rfl rfl ?_
  simp only [Act.put, List.setIfInBounds_toArray, List.set_cons_zero, List.set_cons_succ]
  refine b_build _ _ rfl rfl rfl built_b10 ?_
  simp only [Act.put, List.setIfInBounds_toArray, List.set_cons_zero, List.set_cons_succ]
  refine b_eqn ((5 + 5) % LL) 10 (e10) rfl rfl rfl rfl rfl ?_
  simp only [Act.put, List.setIfInBounds_toArray, List.set_cons_zero, List.set_cons_succ]
  refine b_pick rfl rfl rfl ?_
  simp only [Act.put, List.setIfInBounds_toArray, List.set_cons_zero, List.set_cons_succ]
  refine b_move rfl rfl ?_
  simp only [Act.put, List.setIfInBounds_toArray, List.set_cons_zero, List.set_cons_succ]
  refine b_sc gx (ws_len _) _ rfl rfl rfl (fun _ h => h.blk hbx) ?_
  simp only [Act.put, List.setIfInBounds_toArray, List.set_cons_zero, List.set_cons_succ]
  refine b_one (v := .bool true) rfl own_scbit (fun w1 => (scbit_f 5 0 w1).mono fun e w' h => by rw [h.1, show bitI 5 0 = true by decide]; exact ⟨rfl, h.2⟩) rfl rfl ?_
  simp only [Act.put, List.setIfInBounds_toArray, List.set_cons_zero, List.set_cons_succ]
  refine b_pick rfl rfl rfl ?_
  simp only [Act.put, List.setIfInBounds_toArray, List.set_cons_zero, List.set_cons_succ]
  refine b_move rfl rfl ?_
  simp only [Act.put, List.setIfInBounds_toArray, List.set_cons_zero, List.set_cons_succ]
  refine b_sc gx (ws_len _) _ rfl rfl rfl (fun _ h => h.blk hbx) ?_
  simp only [Act.put, List.setIfInBounds_toArray, List.set_cons_zero, List.set_cons_succ]
  refine b_one (v := .bool false) rfl own_scbit (fun w1 => (scbit_f 5 1 w1).mono fun e w' h => by rw [h.1, show bitI 5 1 = false by decide]; exact ⟨rfl, h.2⟩) rfl rfl ?_
  simp only [Act.put, List.setIfInBounds_toArray, List.set_cons_zero, List.set_cons_succ]
  refine b_not _ rfl rfl rfl ?_
  simp only [Act.put, List.setIfInBounds_toArray, List.set_cons_zero, List.set_cons_succ]
  refine b_pick rfl rfl rfl ?_
  simp only [Act.put, List.setIfInBounds_toArray, List.set_cons_zero, List.set_cons_succ]
  refine b_assign rfl rfl ?_
  refine wpB_nil ?_
  intro W1 hw1
  have hbe := below_up hbe hw1
  clear hw1
  simp only [Exit.then]
  refine hK _ _ ?_
  clear hK K
  go_wp2
  go_ret
  exact ⟨rfl, hbe⟩
  -- end first
end Go.Proofs.Ythejahhhmkkhoaa
