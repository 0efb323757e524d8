import Derived.Test.YthejahhhmkkhoaaSumP
/-
  PLAIN NUMBERS: products of bytes. No program is imported.
-/
namespace Nums

theorem W2_pow : ∀ k, W2 k = ((256 ^ k : Nat) : Int)
  | 0 => rfl
  | k + 1 => by
    show 256 * W2 k = _
    rw [W2_pow k, Nat.pow_succ]
    omega
theorem V2_set {l : List Int} {k : Nat} (x : Int) (h : k < l.length) : V2 (l.set k x) = V2 l + W2 k * (x - l[k]!) := by
  have e : (l.set k x)[k]! = x := by rw [getElem!_pos _ k (by rw [List.length_set]; exact h), List.getElem_set_self]
  rw [V2_split (l := l.set k x) (k := k) (by rw [List.length_set]; exact h), V2_split h, e, List.take_set_of_le (Nat.le_refl _), List.drop_set_of_lt (by omega)]
  generalize l[k]! = y
  generalize V2 (l.drop (k + 1)) = z
  generalize V2 (l.take k) = u
  generalize W2 k = W
  grind only

theorem V2_zeros : ∀ n, V2 (List.replicate n 0) = 0
  | 0 => rfl
  | n + 1 => by
    show 0 + 256 * V2 (List.replicate n 0) = 0
    rw [V2_zeros n]
    rfl

/-- The products of the first i bytes of a, and of the byte i with the first k of b. -/
structure Cv (a b : List UInt8) (t : List Int) (i k : Nat) : Prop where
  len : t.length = 65
  bnd : ∀ x ∈ t, 0 ≤ x ∧ x ≤ (32 * i + k : Nat) * 65025
  val : V2 t = ((le (a.take i) * le b + 256 ^ i * ((a[i]!).toNat * le (b.take k)) : Nat) : Int)
section
variable {a b : List UInt8} {t : List Int} {i k : Nat}
theorem Cv.start (a b : List UInt8) : Cv a b (List.replicate 65 0) 0 0 := by
  refine ⟨by simp, ?_, ?_⟩
  · intro x hx
    obtain rfl := List.eq_of_mem_replicate hx
    omega
  · rw [V2_zeros, List.take_zero, List.take_zero]
    show (0 : Int) = ((0 * le b + 256 ^ 0 * (_ * 0) : Nat) : Int)
    rw [Nat.zero_mul, Nat.mul_zero, Nat.mul_zero]
    rfl
theorem Cv.get (h : Cv a b t i k) {j : Nat} (hj : j < 65) : 0 ≤ t[j]! ∧ t[j]! ≤ (32 * i + k : Nat) * 65025 := by
  rw [getElem!_pos t j (by rw [h.len]; exact hj)]
  exact h.bnd _ (List.getElem_mem _)
theorem Cv.next (h : Cv a b t i k) (hb : b.length = 32) (hi : i < 32) (hk : k < 32) :
    Cv a b (t.set (i + k) (t[i + k]! + (((a[i]!).toNat * (b[k]!).toNat : Nat) : Int))) i (k + 1) := by
  have hx := (a[i]!).toNat_lt
  have hy := (b[k]!).toNat_lt
  have hg := h.get (j := i + k) (by omega)
  have hxy : (a[i]!).toNat * (b[k]!).toNat ≤ 255 * 255 := Nat.mul_le_mul (by omega) (by omega)
  refine ⟨by rw [List.length_set, h.len], fun x hx2 => ?_, ?_⟩
  · rcases List.mem_or_eq_of_mem_set hx2 with h1 | h1
    · have := h.bnd x h1
      omega
    · subst h1
      omega
  · rw [V2_set _ (by rw [h.len]; omega), h.val, le_take (l := b) (by omega), W2_pow]
    generalize (a[i]!).toNat = x at *
    generalize (b[k]!).toNat = y at *
    generalize t[i + k]! = z at *
    generalize le (b.take k) = u
    generalize le (a.take i) * le b = v
    have e1 : z + ((x * y : Nat) : Int) - z = ((x * y : Nat) : Int) := by omega
    have e2 : 256 ^ i * (x * (u + 256 ^ k * y)) = 256 ^ i * (x * u) + 256 ^ (i + k) * (x * y) := by
      rw [Nat.mul_add, Nat.mul_add, Nat.pow_add]
      congr 1
      rw [Nat.mul_left_comm x, Nat.mul_assoc]
    rw [e1, e2, ← Int.natCast_mul, ← Int.natCast_add, Nat.add_assoc]
theorem Cv.roll (h : Cv a b t i 32) (ha : a.length = 32) (hb : b.length = 32) (hi : i < 32) : Cv a b t (i + 1) 0 := by
  refine ⟨h.len, fun x hx => ?_, ?_⟩
  · have := h.bnd x hx
    omega
  · rw [h.val, le_take (l := a) (by omega), List.take_of_length_le (l := b) (by omega)]
    congr 1
    rw [Nat.add_mul, List.take_zero]
    show _ = _ + 256 ^ (i + 1) * (_ * 0)
    rw [Nat.mul_zero, Nat.mul_zero, Nat.add_zero, Nat.mul_assoc]
theorem Cv.last (h : Cv a b t 32 0) (ha : a.length = 32) : V2 t = ((le a * le b : Nat) : Int) := by
  rw [h.val, List.take_of_length_le (l := a) (by omega), List.take_zero]
  congr 1
end

/-- The first k bytes of the digits t, and what is carried. -/
def Cy (t : List Int) (s : List UInt8) (c k : Nat) : Prop := s.length = 65 ∧ c ≤ 66585600 ∧ ((le (s.take k) + c * 256 ^ k : Nat) : Int) = V2 (t.take k)
section
variable {t : List Int} {s : List UInt8} {c k : Nat}
theorem Cy.start (h : s.length = 65) : Cy t s 0 0 := ⟨h, by omega, by simp [le, V2]⟩
theorem Cy.next (h : Cy t s c k) (ht : t.length = 65) (hk : k < 65) {x : Nat} (hx : t[k]! = (x : Int)) (hxb : x ≤ 66585600) :
    Cy t (s.set k (UInt8.ofNat ((c + x) % 256))) ((c + x) / 256) (k + 1) := by
  obtain ⟨hs, hc, hV⟩ := h
  refine ⟨by rw [List.length_set, hs], by omega, ?_⟩
  rw [le_take_set _ (by omega), V2_take (by omega), ← hV, hx, W2_pow, UInt8.toNat_ofNat_of_lt' (by show _ < 256; omega), Nat.pow_succ]
  have e := Nat.mod_add_div (c + x) 256
  generalize (c + x) % 256 = r at *
  generalize (c + x) / 256 = q at *
  generalize 256 ^ k = W at *
  generalize le (s.take k) = u at *
  have e2 : W * (r + 256 * q) = W * (c + x) := by rw [e]
  rw [Nat.mul_add, Nat.mul_add] at e2
  have e3 : q * (W * 256) = W * (256 * q) := by rw [Nat.mul_comm q, Nat.mul_assoc]
  have e4 : c * W = W * c := Nat.mul_comm ..
  rw [← Int.natCast_mul, ← Int.natCast_add]
  congr 1
  omega
theorem Cy.last (h : Cy t s c 65) (ht : t.length = 65) {v : Nat} (hv : V2 t = (v : Int)) (hlt : v < 256 ^ 64) : le s = v := by
  obtain ⟨hs, hc, hV⟩ := h
  rw [List.take_of_length_le (by omega), List.take_of_length_le (by omega), hv] at hV
  have h1 : le s + c * 256 ^ 65 = v := Int.ofNat_inj.1 hV
  have h2 : (256 : Nat) ^ 64 < 256 ^ 65 := by decide
  rcases Nat.eq_zero_or_pos c with h0 | h0
  · subst h0
    omega
  · have h3 : 256 ^ 65 ≤ c * 256 ^ 65 := Nat.le_mul_of_pos_left _ h0
    omega
end
theorem prod_lt {a b : List UInt8} (ha : a.length = 32) (hb : b.length = 32) : le a * le b < 256 ^ 64 := by
  have h1 := le_lt a
  have h2 := le_lt b
  rw [ha] at h1
  rw [hb] at h2
  have h3 : (256 : Nat) ^ 64 = 256 ^ 32 * 256 ^ 32 := by decide
  rw [h3]
  exact Nat.mul_lt_mul'' h1 h2
end Nums
