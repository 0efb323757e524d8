import Derived.Test.YthejahhhmkkhoaaModP
/-
  PLAIN NUMBERS: sums of bytes. No program is imported.
-/
namespace Nums

theorem le_take {l : List UInt8} {k : Nat} (h : k < l.length) : le (l.take (k + 1)) = le (l.take k) + 256 ^ k * (l[k]!).toNat := by
  rw [List.take_succ_eq_append_getElem h, le_append, List.length_take, Nat.min_eq_left (by omega), getElem!_pos l k h]
  show _ + _ * (l[k].toNat + 256 * 0) = _
  rw [Nat.mul_zero, Nat.add_zero]
theorem le_take_set {l : List UInt8} {k : Nat} (x : UInt8) (h : k < l.length) : le ((l.set k x).take (k + 1)) = le (l.take k) + 256 ^ k * x.toNat := by
  rw [le_take (by rw [List.length_set]; exact h), List.take_set_of_le (Nat.le_refl _), getElem!_pos _ k (by rw [List.length_set]; exact h), List.getElem_set_self]

/-- The first k bytes of a sum, and what is carried. -/
def Sm (a b s : List UInt8) (cc k : Nat) : Prop := s.length = 33 ∧ cc ≤ 1 ∧ le (s.take k) + cc * 256 ^ k = le (a.take k) + le (b.take k)
section
variable {a b s : List UInt8} {cc k : Nat}
theorem Sm.start (h : s.length = 33) : Sm a b s 0 0 := ⟨h, by omega, rfl⟩
theorem Sm.next (h : Sm a b s cc k) (ha : a.length = 32) (hb : b.length = 32) (hk : k < 32) :
    Sm a b (s.set k (UInt8.ofNat ((cc + ((a[k]!).toNat + (b[k]!).toNat)) % 256))) ((cc + ((a[k]!).toNat + (b[k]!).toNat)) / 256) (k + 1) := by
  obtain ⟨hs, hc, hV⟩ := h
  have hx := (a[k]!).toNat_lt
  have hy := (b[k]!).toNat_lt
  refine ⟨by rw [List.length_set, hs], by omega, ?_⟩
  rw [le_take_set _ (by omega), le_take (l := a) (by omega), le_take (l := b) (by omega), UInt8.toNat_ofNat_of_lt' (by show _ < 256; omega), Nat.pow_succ]
  generalize (a[k]!).toNat = x at *
  generalize (b[k]!).toNat = y at *
  have e := Nat.mod_add_div (cc + (x + y)) 256
  generalize (cc + (x + y)) % 256 = r at *
  generalize (cc + (x + y)) / 256 = q at *
  generalize 256 ^ k = W at *
  generalize le (s.take k) = u at *
  generalize le (a.take k) = v at *
  generalize le (b.take k) = w at *
  have e2 : W * (r + 256 * q) = W * (cc + (x + y)) := by rw [e]
  rw [Nat.mul_add, Nat.mul_add, Nat.mul_add] at e2
  have e3 : q * (W * 256) = W * (256 * q) := by rw [Nat.mul_comm q, Nat.mul_assoc]
  have e4 : cc * W = W * cc := Nat.mul_comm ..
  omega
theorem Sm.last (h : Sm a b s cc 32) (ha : a.length = 32) (hb : b.length = 32) : le (s.set 32 (UInt8.ofNat cc)) = le a + le b ∧ (s.set 32 (UInt8.ofNat cc)).length = 33 := by
  obtain ⟨hs, hc, hV⟩ := h
  have h1 := le_take_set (l := s) (k := 32) (UInt8.ofNat cc) (by omega)
  have hl : (s.set 32 (UInt8.ofNat cc)).length = 33 := by rw [List.length_set, hs]
  rw [List.take_of_length_le (by omega), UInt8.toNat_ofNat_of_lt' (by show _ < 256; omega)] at h1
  rw [List.take_of_length_le (l := a) (by omega), List.take_of_length_le (l := b) (by omega)] at hV
  refine ⟨?_, hl⟩
  rw [h1, ← hV, Nat.mul_comm]
end
theorem good_iff {b : List UInt8} (hb : b.length = 32) : decide (bytes 32 (le b % LL) = b) = decide (le b < LL) := by
  congr 1
  refine propext ⟨fun h => ?_, fun h => ?_⟩
  · have h1 := congrArg le h
    rw [le_bytes] at h1
    have h2 : le b % LL < LL := Nat.mod_lt _ (by decide)
    have h3 : le b % LL % 256 ^ 32 = le b % LL := Nat.mod_eq_of_lt (Nat.lt_trans h2 (by decide))
    omega
  · apply le_inj (by rw [bytes_len, hb])
    rw [le_bytes, Nat.mod_eq_of_lt h, Nat.mod_eq_of_lt (Nat.lt_trans h (by decide))]
end Nums
