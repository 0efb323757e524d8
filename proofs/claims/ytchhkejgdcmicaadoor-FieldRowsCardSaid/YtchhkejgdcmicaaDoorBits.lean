/-
  PLAIN NUMBERS: rows of bits, and one less. No program is imported.
-/
namespace Nums

/-- The number of a row of bits, the least first. -/
def bv : List Bool → Nat
  | [] => 0
  | b :: bs => (if b then 1 else 0) + 2 * bv bs

theorem bv_app (a b : List Bool) : bv (a ++ b) = bv a + 2 ^ a.length * bv b := by
  induction a with
  | nil => simp [bv]
  | cons x a ih =>
    show (if x then 1 else 0) + 2 * bv (a ++ b) = (if x then 1 else 0) + 2 * bv a + 2 ^ (a.length + 1) * bv b
    rw [ih, Nat.pow_succ, Nat.mul_add, Nat.mul_comm (2 ^ a.length) 2, Nat.mul_assoc, Nat.add_assoc]
theorem bv_zeros (n : Nat) : bv (List.replicate n false) = 0 := by
  induction n with
  | zero => rfl
  | succ n ih => rw [List.replicate_succ]; show 0 + 2 * bv (List.replicate n false) = 0; omega
theorem bv_ones (n : Nat) : bv (List.replicate n true) + 1 = 2 ^ n := by
  induction n with
  | zero => rfl
  | succ n ih => rw [List.replicate_succ, Nat.pow_succ]; show 1 + 2 * bv (List.replicate n true) + 1 = 2 ^ n * 2; omega

/-- The row on the way to one less: the first i bits, which were 0, are 1. -/
def dst (l : List Bool) (i : Nat) : List Bool := List.replicate i true ++ l.drop i
theorem dst_zero (l : List Bool) : dst l 0 = l := by simp [dst]
theorem dst_len {l : List Bool} {i : Nat} (h : i ≤ l.length) : (dst l i).length = l.length := by simp [dst]; omega
theorem dst_get {l : List Bool} {i : Nat} (h : i < l.length) : (dst l i)[i]! = l[i]! := by
  rw [getElem!_pos _ i (by rw [dst_len (by omega)]; exact h), getElem!_pos l i h]
  simp only [dst]
  rw [List.getElem_append_right (by simp)]
  simp
theorem dst_next {l : List Bool} {i : Nat} (h : i < l.length) : (dst l i).set i true = dst l (i + 1) := by
  unfold dst
  rw [List.set_append_right _ _ (by simp), List.length_replicate, Nat.sub_self, List.replicate_succ', List.append_assoc]
  congr 1
  rw [List.drop_eq_getElem_cons h]
  rfl
theorem dst_end {l : List Bool} {i : Nat} (h : i < l.length) (h0 : l.take i = List.replicate i false) (h1 : l[i]! = true) :
    ((dst l i).set i false).length = l.length ∧ bv ((dst l i).set i false) + 1 = bv l := by
  refine ⟨by rw [List.length_set, dst_len (by omega)], ?_⟩
  have e : l = List.replicate i false ++ true :: l.drop (i + 1) := by
    conv => lhs; rw [← List.take_append_drop i l, h0, List.drop_eq_getElem_cons h]
    rw [getElem!_pos l i h] at h1
    rw [h1]
  have f : (dst l i).set i false = List.replicate i true ++ false :: l.drop (i + 1) := by
    unfold dst
    rw [List.set_append_right _ _ (by simp), List.length_replicate, Nat.sub_self, List.drop_eq_getElem_cons h]
    rfl
  have hb : bv l = 2 ^ i * (1 + 2 * bv (l.drop (i + 1))) := by
    conv => lhs; rw [e]
    rw [bv_app, bv_zeros, List.length_replicate, Nat.zero_add]
    rfl
  have ho := bv_ones i
  rw [f, bv_app, List.length_replicate, hb]
  show bv (List.replicate i true) + 2 ^ i * (0 + 2 * bv (l.drop (i + 1))) + 1 = _
  rw [Nat.mul_add (2 ^ i) 1, Nat.mul_one, Nat.zero_add]
  omega
theorem low_next {l : List Bool} {i : Nat} (h : i < l.length) (h0 : l.take i = List.replicate i false) (h1 : l[i]! = false) : l.take (i + 1) = List.replicate (i + 1) false := by
  rw [List.take_succ_eq_append_getElem h, h0, List.replicate_succ']
  rw [getElem!_pos l i h] at h1
  rw [h1]
theorem low_lt {l : List Bool} {i : Nat} (h0 : l.take i = List.replicate i false) (h : 0 < bv l) : i < l.length := by
  rcases Nat.lt_or_ge i l.length with h1 | h1
  · exact h1
  · rw [List.take_of_length_le h1] at h0
    rw [h0, bv_zeros] at h
    omega
theorem bv_drop {l : List Bool} {i : Nat} (h : i < l.length) : bv (l.drop i) = (if l[i]! then 1 else 0) + 2 * bv (l.drop (i + 1)) := by
  rw [List.drop_eq_getElem_cons h, getElem!_pos l i h]
  rfl
theorem bv_top (n : Nat) : bv (List.replicate n false ++ [true]) = 2 ^ n := by
  rw [bv_app, bv_zeros, List.length_replicate]
  show 0 + 2 ^ n * (1 + 2 * 0) = 2 ^ n
  omega

end Nums
