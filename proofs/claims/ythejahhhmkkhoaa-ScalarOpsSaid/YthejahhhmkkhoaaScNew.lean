/-
  THE PROGRAM'S SCALARS: New and Bit; the laws' in and first.
-/
import Derived.Test.YthejahhhmkkhoaaScOps
import Derived.Test.YthejahhhmkkhoaaCopy
import Derived.Test.YthejahhhmkkhoaaMod
import Derived.Test.YthejahhhmkkhoaaSumP
namespace Go.Proofs.Ythejahhhmkkhoaa
open Go.RowKit Go.IntWalk Nums

theorem own_wide : Own 19 := fun _ _ => by go_simp
theorem own_schash : Own 10 := fun _ _ => by go_simp
theorem own_scadd : Own 12 := fun _ _ => by go_simp
theorem own_scmul : Own 14 := fun _ _ => by go_simp
theorem own_scnew : Own 16 := fun _ _ => by go_simp
theorem own_scbit : Own 18 := fun _ _ => by go_simp
theorem own_in4 : Own 9 := fun _ _ => by go_simp
theorem own_first4 : Own 8 := fun _ _ => by go_simp

def z64 : Array Value := (By (List.replicate 64 0)).toArray
section
variable {ops : Array Oper} {C0 : World → Prop} {Q : Act → Prop} {a : Act} {o : Oper} {rest : List Oper}
/-- 64 bytes are read. -/
theorem b_by64 {l : List UInt8} (g : Nat) (hl : l.length = 64) (x : Operand) (hg : Region.wanted o (yielded ops a.tmps) = true) (ho : o.op = .load 35 x) (hx : a.eval x = .pointer (some ⟨g, 0, none⟩))
    (hc : ∀ w, C0 w → Blk w g 35 (By l).toArray) (hk : wpB Try.prog ops C0 Q rest (a.put o.dst (.agg (By l).toArray))) : wpB Try.prog ops C0 Q (o :: rest) a :=
  b_mid hg 35 x ho g 0 hx (By l) _ (fun w h => (hc w h).range) Try.underlying35 rfl (size_w64 (By l).toArray (len_b64 hl)) hk
end

theorem le_zero : ∀ n, le (List.replicate n 0) = 0
  | 0 => rfl
  | n + 1 => by
    show (0 : UInt8).toNat + 256 * le (List.replicate n 0) = 0
    rw [le_zero n]
    rfl
theorem cop_half {b : List UInt8} (hb : b.length = 32) : (cop (List.replicate 64 0) 0 b).length = 64 ∧ le (cop (List.replicate 64 0) 0 b) = le b := by
  have e : cop (List.replicate 64 0) 0 b = b ++ List.replicate 32 0 := by
    simp [cop, hb]
  rw [e]
  refine ⟨by simp [hb], ?_⟩
  rw [le_append, le_zero, Nat.mul_zero, Nat.add_zero]

set_option maxRecDepth 100000 in
set_option maxHeartbeats 1000000 in
theorem in4_f {b : List UInt8} (hb : b.length = 32) (w : World) :
    Calls Try.prog 9 #[.agg (By b).toArray] w fun e w' => e = .returned (.agg (Us (ws (le b % LL))).toArray) ∧ Below w.heap.size w w' := by
  obtain ⟨hl, hle⟩ := cop_half hb
  rw [← hle]
  clear hle
  go_enter Try.func9, Try.ntmps9
  refine wp_seq_k fun K hK => ?_
  refine wp_region_lit ?_
  refine wpl_box (By b).toArray rfl rfl rfl ?_
  refine wpl_alloc (zs := z4) rfl rfl (by kernel_rfl) ?_
  refine wpl_nil ?_
  go_simp
  refine hK _ _ ?_
  clear hK K
  refine wp_seq_k fun K hK => ?_
  refine wp_region_lit ?_
  refine wpl_alloc (zs := z64) rfl rfl (by kernel_rfl) ?_
  refine wpl_nil ?_
  go_simp
  refine hK _ _ ?_
  clear hK K
  refine wp_at (fun W => Blk W w.heap.size 22 (By b).toArray ∧ Blk W (w.heap.size + 1) 27 z4 ∧ Blk W (w.heap.size + 1 + 1) 35 z64 ∧ Below w.heap.size w W) ⟨blk3_0 w _ _ _ _, blk3_1 w _ _ _ _, blk3_2 w _ _ _ _, (((Below.refl _ _).alloc (Nat.le_refl _) _).alloc (by simp) _).alloc (by simp; omega) _⟩ ?_
  rintro W ⟨h0, h1, h2, hbe⟩
  refine wp_seq_k fun K hK => ?_
  refine reg_copy 2 (.tmp 4) (.tmp 5) rfl rfl rfl (tail_ok (by kernel_rfl)) (fun _ _ d _ _ h => by cases d <;> exact h) (by kernel_rfl) ?_
  simp only [List.take_succ_cons, List.take_zero]
  refine b_val (v := .slice (some ⟨w.heap.size + 1 + 1, 0, none⟩) 64 64) rfl (fun w1 h1 => by go_simp) ?_
  simp only [Act.put, List.setIfInBounds_toArray, List.set_cons_zero, List.set_cons_succ]
  refine b_val (v := .slice (some ⟨w.heap.size, 0, none⟩) 32 32) rfl (fun w1 h1 => by go_simp) ?_
  simp only [Act.put, List.setIfInBounds_toArray, List.set_cons_zero, List.set_cons_succ]
  refine wpB_nil ⟨w.heap.size + 1 + 1, 0, 64, 64, w.heap.size, 32, _, _, _, b, rfl, by rw [hb]; rfl, h2, h0, by omega, by rw [hb, List.length_replicate]; omega, fun W1 hw1 => ?_⟩
  simp only [Exit.then, Act.put, List.setIfInBounds_toArray, List.set_cons_zero, List.set_cons_succ]
  refine hK _ _ ?_
  clear hK K
  have k1 := (hw1.blk h1).rowFar (g' := w.heap.size + 1 + 1) (by omega) (By (cop (List.replicate 64 0) 0 b)).toArray
  have k2 := (hw1.blk h2).row (By (cop (List.replicate 64 0) 0 b)).toArray
  have kbe := below_setRow (below_up hbe hw1) (g := w.heap.size + 1 + 1) (by omega) (By (cop (List.replicate 64 0) 0 b)).toArray
  clear hw1 h0 h1 h2 hbe
  generalize cop (List.replicate 64 0) 0 b = l at *
  generalize W1.setRow (w.heap.size + 1 + 1) (By l).toArray = W2 at *
  refine wp_seq_k fun K hK => ?_
  refine reg_setF 2 (.tmp 2) 27 (.tmp 8) rfl rfl rfl rfl ?_
  simp only [List.take_succ_cons, List.take_zero]
  refine b_by64 (w.heap.size + 1 + 1) hl _ rfl rfl rfl (fun _ h => h.blk k2) ?_
  simp only [Act.put, List.setIfInBounds_toArray, List.set_cons_zero, List.set_cons_succ]
  refine b_one rfl own_wide (fun w1 => wide_f hl w1) rfl rfl ?_
  simp only [Act.put, List.setIfInBounds_toArray, List.set_cons_zero, List.set_cons_succ]
  have hz := len_u4 (ws_len (le l % LL))
  refine wpB_nil ⟨_, _, (Us (ws (le l % LL))).toArray, rfl, rfl, k1, by rw [hz]; rfl, size_sc _ hz, Us_one _, fun w1 hw1 => ?_⟩
  simp only [Exit.then]
  refine hK _ _ ?_
  clear hK K
  refine wp_ret ?_
  refine bodyPost_ret (results_cell_row rfl _ _ (w.heap.size + 1) 27 (Us (ws (le l % LL))).toArray (0, 0) _ rfl ((hw1.blk k1).row _) Try.underlying27 rfl (size_sc _ hz)) rfl ⟨rfl, ?_⟩
  exact below_setRow (below_up kbe hw1) (by omega) _

/-! ### New -/
set_option maxRecDepth 100000 in
set_option maxHeartbeats 1000000 in
theorem scnew_f {b : List UInt8} (hb : b.length = 32) (w : World) :
    Calls Try.prog 16 #[.agg (By b).toArray] w fun e w' => e = .returned (.tuple #[.agg (Us (ws (if le b < LL then le b else 0))).toArray, .bool (decide (le b < LL))]) ∧ Below w.heap.size w w' := by
  obtain ⟨hl, hle⟩ := cop_half hb
  have hE := fun w1 => equal32 (Nums.bytes 32 (le b % LL)) b (bytes_len _ _) hb w1
  rw [good_iff hb] at hE
  have hW := fun w1 => wide_f hl w1
  rw [hle] at hW
  clear hle
  go_enter Try.func16, Try.ntmps16
  refine wp_seq_k fun K hK => ?_
  refine wp_region_lit ?_
  refine wpl_box (By b).toArray rfl rfl rfl ?_
  refine wpl_alloc (zs := z4) rfl rfl (by kernel_rfl) ?_
  refine wpl_assign rfl rfl ?_
  refine wpl_nil ?_
  go_simp
  refine hK _ _ ?_
  clear hK K
  refine wp_seq_k fun K hK => ?_
  refine wp_region_lit ?_
  refine wpl_alloc (zs := z64) rfl rfl (by kernel_rfl) ?_
  refine wpl_nil ?_
  go_simp
  refine hK _ _ ?_
  clear hK K
  refine wp_at (fun W => Blk W w.heap.size 22 (By b).toArray ∧ Blk W (w.heap.size + 1) 27 z4 ∧ Blk W (w.heap.size + 1 + 1) 35 z64 ∧ Below w.heap.size w W) ⟨blk3_0 w _ _ _ _, blk3_1 w _ _ _ _, blk3_2 w _ _ _ _, (((Below.refl _ _).alloc (Nat.le_refl _) _).alloc (by simp) _).alloc (by simp; omega) _⟩ ?_
  rintro W ⟨h0, h1, h2, hbe⟩
  refine wp_seq_k fun K hK => ?_
  refine reg_copy 2 (.tmp 6) (.tmp 7) rfl rfl rfl (tail_ok (by kernel_rfl)) (fun _ _ d _ _ h => by cases d <;> exact h) (by kernel_rfl) ?_
  simp only [List.take_succ_cons, List.take_zero]
  refine b_val (v := .slice (some ⟨w.heap.size + 1 + 1, 0, none⟩) 64 64) rfl (fun w1 h1 => by go_simp) ?_
  simp only [Act.put, List.setIfInBounds_toArray, List.set_cons_zero, List.set_cons_succ]
  refine b_val (v := .slice (some ⟨w.heap.size, 0, none⟩) 32 32) rfl (fun w1 h1 => by go_simp) ?_
  simp only [Act.put, List.setIfInBounds_toArray, List.set_cons_zero, List.set_cons_succ]
  refine wpB_nil ⟨w.heap.size + 1 + 1, 0, 64, 64, w.heap.size, 32, _, _, _, b, rfl, by rw [hb]; rfl, h2, h0, by omega, by rw [hb, List.length_replicate]; omega, fun W1 hw1 => ?_⟩
  simp only [Exit.then, Act.put, List.setIfInBounds_toArray, List.set_cons_zero, List.set_cons_succ]
  refine hK _ _ ?_
  clear hK K
  have k0 := (hw1.blk h0).rowFar (g' := w.heap.size + 1 + 1) (by omega) (By (cop (List.replicate 64 0) 0 b)).toArray
  have k1 := (hw1.blk h1).rowFar (g' := w.heap.size + 1 + 1) (by omega) (By (cop (List.replicate 64 0) 0 b)).toArray
  have k2 := (hw1.blk h2).row (By (cop (List.replicate 64 0) 0 b)).toArray
  have kbe := below_setRow (below_up hbe hw1) (g := w.heap.size + 1 + 1) (by omega) (By (cop (List.replicate 64 0) 0 b)).toArray
  clear hw1 h0 h1 h2 hbe
  generalize cop (List.replicate 64 0) 0 b = l at *
  generalize W1.setRow (w.heap.size + 1 + 1) (By l).toArray = W2 at *
  have hz := len_u4 (ws_len (le b % LL))
  refine wp_seq_k fun K hK => ?_
  refine reg_varF 2 5 27 (.tmp 10) z4 rfl rfl rfl rfl rfl rfl rfl (exec_alloc rfl (by kernel_rfl)) ?_
  simp only [List.take_succ_cons, List.take_zero]
  refine b_by64 (w.heap.size + 1 + 1) hl _ rfl rfl rfl (fun _ h => h.blk k2) ?_
  simp only [Act.put, List.setIfInBounds_toArray, List.set_cons_zero, List.set_cons_succ]
  refine b_one rfl own_wide (fun w1 => hW w1) rfl rfl ?_
  simp only [Act.put, List.setIfInBounds_toArray, List.set_cons_zero, List.set_cons_succ]
  refine wpB_nil ⟨(Us (ws (le b % LL))).toArray, fun _ => rfl, fun _ => rfl, hz.symm, size_sc _ hz, Us_one _, fun gx W3 hgx hw1 hbx => ?_⟩
  simp only [Exit.then, Act.put, List.setIfInBounds_toArray, List.set_cons_zero, List.set_cons_succ]
  refine hK _ _ ?_
  clear hK K
  have k0 := hw1.blk k0
  have k1 := hw1.blk k1
  have kbe := below_up kbe hw1
  clear hw1 k2 hW hl
  refine wp_seq_k fun K hK => ?_
  refine wp_seq_k fun K2 hK2 => ?_
  refine reg_q (by kernel_rfl) (tail_ok (by kernel_rfl)) (fun _ _ d _ _ h => by cases d <;> exact h) ?_
  refine b_sc gx (ws_len _) _ rfl rfl rfl (fun _ h => h.blk hbx) ?_
  simp only [Act.put, List.setIfInBounds_toArray, List.set_cons_zero, List.set_cons_succ]
  refine b_one rfl own_schash (fun w1 => schash_f (le b % LL) w1) rfl rfl ?_
  simp only [Act.put, List.setIfInBounds_toArray, List.set_cons_zero, List.set_cons_succ]
  refine b_by w.heap.size hb _ rfl rfl rfl (fun _ h => h.blk k0) ?_
  simp only [Act.put, List.setIfInBounds_toArray, List.set_cons_zero, List.set_cons_succ]
  refine b_neq (By (Nums.bytes 32 (le b % LL))).toArray (By b).toArray rfl rfl rfl rfl (by kernel_rfl) hE ?_
  simp only [Act.put, List.setIfInBounds_toArray, List.set_cons_zero, List.set_cons_succ]
  refine wpB_nil ?_
  intro W1 hw1
  simp only [Exit.then]
  refine hK2 _ _ ?_
  clear hK2 K2
  have hbx := hw1.blk hbx
  have k1 := hw1.blk k1
  have kbe := below_up kbe hw1
  clear hw1 k0 hE
  by_cases hq : le b < LL
  · rw [decide_eq_true hq]
    have hm : le b % LL = le b := Nat.mod_eq_of_lt hq
    rw [hm] at hbx hz
    refine wp_cond (t := false) rfl ?_
    rw [if_neg (by decide)]
    refine wp_skip ?_
    simp only [Exit.then]
    refine hK _ _ ?_
    clear hK K
    refine wp_seq_k fun K hK => ?_
    refine wp_region_lit ?_
    refine wpList_load_row rfl 27 _ rfl gx rfl 27 (Us (ws (le b))).toArray (0, 0) _ hbx Try.underlying27 rfl (size_sc _ hz) ?_
    simp only [Act.put, List.setIfInBounds_toArray, List.set_cons_zero, List.set_cons_succ]
    refine wpList_store_row rfl 27 _ _ rfl (w.heap.size + 1) rfl (Us (ws (le b))).toArray rfl 27 _ k1 (size_sc _ hz) (by rw [hz]; rfl) (Us_one _) ?_
    refine wpl_assign rfl rfl ?_
    refine wpl_nil ?_
    simp only [Exit.then, Act.put, List.setIfInBounds_toArray, List.set_cons_zero, List.set_cons_succ]
    refine hK _ _ ?_
    clear hK K
    refine wp_ret ?_
    refine bodyPost_ret (results_cell_tmp rfl _ _ (w.heap.size + 1) 27 (Us (ws (le b))).toArray (0, 0) _ (.bool true) rfl rfl (k1.row _) Try.underlying27 rfl (size_sc _ hz)) rfl ⟨by rw [if_pos hq, decide_eq_true hq], ?_⟩
    exact below_setRow kbe (by omega) _
  · rw [decide_eq_false hq]
    refine wp_cond (t := true) rfl ?_
    rw [if_pos rfl]
    refine wp_seq_k fun K2 hK2 => ?_
    refine wp_region_lit ?_
    refine wpl_build (t := 27) [] z4 rfl rfl rfl (by kernel_rfl) ?_
    simp only [Act.put, List.setIfInBounds_toArray, List.set_cons_zero, List.set_cons_succ]
    refine wpList_store_row rfl 27 _ _ rfl (w.heap.size + 1) rfl z4 rfl 27 _ k1 (size_sc _ rfl) rfl (Us_one _) ?_
    refine wpl_assign rfl rfl ?_
    refine wpl_nil ?_
    simp only [Exit.then, Act.put, List.setIfInBounds_toArray, List.set_cons_zero, List.set_cons_succ]
    refine hK2 _ _ ?_
    clear hK2 K2 hK
    refine wp_ret ?_
    simp only [Exit.then]
    refine bodyPost_ret (results_cell_tmp rfl _ _ (w.heap.size + 1) 27 z4 (0, 0) _ (.bool false) rfl rfl (k1.row _) Try.underlying27 rfl (size_sc _ rfl)) rfl ⟨by rw [if_neg hq]; rfl, ?_⟩
    exact below_setRow kbe (by omega) _

/-! ### Bit -/
/-- The number's bit i; false, if i isn't from 0 to 255. -/
def bitI (x : Nat) (i : Int) : Bool := decide (0 ≤ i) && decide (i < 256) && decide (x / 2 ^ i.toNat % 2 = 1)
theorem bitI_out {x : Nat} {i : Int} (h : i < 0 ∨ 256 ≤ i) : bitI x i = false := by
  unfold bitI
  rcases h with h | h
  · rw [decide_eq_false (show ¬ 0 ≤ i by omega)]
    rfl
  · rw [decide_eq_false (show ¬ i < 256 by omega), Bool.and_false]
    rfl
theorem bitI_in {x k : Nat} (h : k < 256) : bitI x (k : Int) = decide (x / 2 ^ k % 2 = 1) := by
  unfold bitI
  rw [decide_eq_true (show (0 : Int) ≤ (k : Int) by omega), decide_eq_true (show (k : Int) < 256 by omega)]
  rfl
theorem wd_bit (x : Nat) {k : Nat} : wd x (k / 64) / 2 ^ (k % 64) % 2 = x / 2 ^ k % 2 := by
  have e : (2 : Nat) ^ k = 18446744073709551616 ^ (k / 64) * 2 ^ (k % 64) := by
    rw [show (18446744073709551616 : Nat) = 2 ^ 64 from rfl, ← Nat.pow_mul, ← Nat.pow_add]
    congr 1
    omega
  rw [e, ← Nat.div_div_eq_div_mul]
  unfold wd
  generalize x / 18446744073709551616 ^ (k / 64) = z
  have hs : k % 64 < 64 := Nat.mod_lt _ (by decide)
  generalize k % 64 = s at *
  have e2 : 18446744073709551616 = 2 ^ s * (2 * 2 ^ (63 - s)) := by
    rw [← Nat.pow_succ', ← Nat.pow_add]
    rw [show s + (63 - s + 1) = 64 by omega]
  rw [e2, Nat.mod_mul_right_div_self, Nat.mod_mul_right_mod]

set_option maxRecDepth 100000 in
set_option maxHeartbeats 1000000 in
theorem scbit_f (x : Nat) (i : Int) (w : World) :
    Calls Try.prog 18 #[.agg (Us (ws x)).toArray, .int .i64 i] w fun e w' => e = .returned (.bool (bitI x i)) ∧ Below w.heap.size w w' := by
  have hbe : Below w.heap.size w (w.alloc (.cells (Us (ws x)).toArray 27)) := (Below.refl _ _).alloc (Nat.le_refl _) _
  have HB := Lib.hid hbe
  clear hbe
  by_cases h0 : 0 ≤ i
  · by_cases h1 : i < 256
    · obtain ⟨k, rfl⟩ := Int.eq_ofNat_of_zero_le h0
      have hk : k < 256 := by omega
      rw [bitI_in hk, ← wd_bit x, ← ws_wd x (k := k / 64) (by omega)]
      have c0 : (w.alloc (.cells (Us (ws x)).toArray 27)).cell? ⟨w.heap.size, k / 64, none⟩ = some (.int .u64 ((ws x)[k / 64]! : Nat)) := ((Blk.new w _ _).cell (k / 64)).trans (Us_at (by rw [ws_len]; omega))
      have hv := ws_get_lt x (k := k / 64) (by omega)
      generalize (ws x)[k / 64]! = v at *
      generalize ws x = a at *
      have qd : (k : Int).tdiv 64 = ((k / 64 : Nat) : Int) := rfl
      have qm : (k : Int).tmod 64 = ((k % 64 : Nat) : Int) := rfl
      have g1 : ((k / 64 : Nat) : Int) < 4 := by omega
      have g2 : ((k % 64 : Nat) : Int) ≤ 64 := by omega
      generalize k / 64 = q at *
      generalize k % 64 = s at *
      have hand : bits .and .u64 ((v : Int) / 2 ^ s) 1 = ((v / 2 ^ s % 2 : Nat) : Int) := by
        have h := u64_and_nat (v / 2 ^ s) 1 (Nat.lt_of_le_of_lt (Nat.div_le_self _ _) hv) (by omega)
        rw [nat_mask1] at h
        have f1 : ((v : Int) / 2 ^ s) = ((v / 2 ^ s : Nat) : Int) := by simp
        rw [f1]
        exact h
      generalize v / 2 ^ s % 2 = m at *
      have hdec : ((m : Int) == 1) = decide (m = 1) := by
        rw [Bool.eq_iff_iff]
        simp
        omega
      clear hv
      go_enter Try.func18, Try.ntmps18
      go_wp2
      go_ret
      exact ⟨rfl, HB.out⟩
    · rw [bitI_out (.inr (by omega))]
      generalize ws x = a at *
      go_enter Try.func18, Try.ntmps18
      go_wp2
      go_ret
      exact ⟨rfl, HB.out⟩
  · rw [bitI_out (.inl (by omega))]
    generalize ws x = a at *
    go_enter Try.func18, Try.ntmps18
    go_wp2
    go_ret
    exact ⟨rfl, HB.out⟩
end Go.Proofs.Ythejahhhmkkhoaa
