import Derived.Test.YthejahhhmkkhoaaLess
import Derived.Test.YthejahhhmkkhoaaHigh
/-
  PLAIN NUMBERS: a number modulo L, bit by bit. No program is imported.
-/
namespace Nums

/-- The digits m, doubled, with a bit more: the first k are done. -/
def Db (m out : List Int) (c0 c : Int) (k : Nat) : Prop :=
  ∃ dn, dn.length = k ∧ Small2 dn ∧ (c = 0 ∨ c = 1) ∧ V2 dn + c * W2 k = 2 * V2 (m.take k) + c0 ∧ out = dn ++ m.drop k
section
variable {m out : List Int} {c0 c : Int} {k : Nat}
theorem Db.start (h : c0 = 0 ∨ c0 = 1) : Db m m c0 c0 0 := by
  refine ⟨[], rfl, ?_, h, ?_, rfl⟩
  · intro x hx
    cases hx
  · show V2 [] + c0 * 1 = 2 * V2 (m.take 0) + c0
    simp [V2]
theorem Db.len (h : Db m out c0 c k) (hm : m.length = 33) (hk : k ≤ 33) : out.length = 33 := by
  obtain ⟨dn, hd, _, _, _, rfl⟩ := h
  rw [List.length_append, List.length_drop]
  omega
theorem Db.next (h : Db m out c0 c k) (hm : m.length = 33) (hs : Small2 m) (hk : k < 33) :
    (0 ≤ out[k]! ∧ out[k]! < 256) ∧ (0 ≤ c ∧ c ≤ 1) ∧ Db m (out.set k ((2 * out[k]! + c) % 256)) c0 ((2 * out[k]! + c) / 256) (k + 1) := by
  obtain ⟨dn, hd, hdn, hc, hV, rfl⟩ := h
  have hx := small_get hs (i := k) (by omega)
  have hdr : m.drop k = m[k]! :: m.drop (k + 1) := by rw [List.drop_eq_getElem_cons (by omega), getElem!_pos m k (by omega)]
  have hlt := V2_take (l := m) (i := k) (by omega)
  have eo : (dn ++ m.drop k)[k]! = m[k]! := by
    rw [hdr, getElem!_pos _ _ (by simp; omega), List.getElem_append_right (by omega)]
    simp [hd]
  rw [eo]
  refine ⟨hx, by omega, dn ++ [(2 * m[k]! + c) % 256], by simp [hd], small_snoc hdn (by omega) (by omega), by omega, ?_, ?_⟩
  · rw [V2_snoc, hd, hlt]
    show _ + _ * (256 * W2 k) = _
    have e := Int.emod_add_mul_ediv (2 * m[k]! + c) 256
    generalize (2 * m[k]! + c) % 256 = r at *
    generalize (2 * m[k]! + c) / 256 = q at *
    generalize m[k]! = x at *
    generalize V2 dn = a at *
    generalize V2 (List.take k m) = b at *
    generalize W2 k = W at *
    clear hdr eo hx hc
    have e2 : W * (r + 256 * q) = W * (2 * x + c) := by rw [e]
    grind only
  · rw [hdr, ← hd, List.set_append_right _ _ (Nat.le_refl _)]
    simp
theorem Db.last (h : Db m out c0 c 33) (hm : m.length = 33) (hlt : 2 * V2 m + c0 < W2 33) : Small2 out ∧ V2 out = 2 * V2 m + c0 := by
  obtain ⟨dn, hd, hdn, hc, hV, rfl⟩ := h
  have e33 : m.take 33 = m := List.take_of_length_le (by omega)
  have d33 : m.drop 33 = [] := List.drop_eq_nil_of_le (by omega)
  have h1 := V2_small hdn
  rw [hd] at h1
  rw [e33] at hV
  rw [d33, List.append_nil]
  refine ⟨hdn, ?_⟩
  have hW := W2_pos 33
  rcases hc with rfl | rfl
  · omega
  · omega
end

theorem W2_33 : W2 33 = 256 * 115792089237316195423570985008687907853269984665640564039457584007913129639936 := by decide
theorem LL_od : V2 od33 = (LL : Int) := V2_od33

/-- One bit more. -/
theorem mod_bit {P : Nat} {v b : Nat} (hv : v = P % LL) (hb : b < 2) : ((2 * v + b < LL → 2 * v + b = (2 * P + b) % LL) ∧ (¬ 2 * v + b < LL → 2 * v + b - LL = (2 * P + b) % LL)) ∧ 2 * v + b < 2 * LL := by
  subst hv
  have h1 : P % LL < LL := Nat.mod_lt _ (by decide)
  have h2 : (2 * P + b) % LL = (2 * (P % LL) + b) % LL := by
    have e := Nat.div_add_mod P LL
    have e2 : 2 * P + b = 2 * (P % LL) + b + LL * (2 * (P / LL)) := by
      have : LL * (2 * (P / LL)) = 2 * (LL * (P / LL)) := by rw [Nat.mul_left_comm]
      omega
    rw [e2, Nat.add_mul_mod_self_left]
  rw [h2]
  clear h2
  generalize P % LL = r at *
  refine ⟨⟨fun h => (Nat.mod_eq_of_lt h).symm, fun h => ?_⟩, by omega⟩
  rw [Nat.mod_eq_sub_mod (a := 2 * r + b) (by omega), Nat.mod_eq_of_lt (a := 2 * r + b - LL) (by omega)]

/-- The bits that have been taken: the bytes above i, and t bits of byte i. -/
def partL (l : List UInt8) (i t : Nat) : Nat := le (l.drop (i + 1)) * 2 ^ t + (l[i]!).toNat / 2 ^ (8 - t)
theorem part_zero {l : List UInt8} {i : Nat} : partL l i 0 = le (l.drop (i + 1)) := by
  have h := (l[i]!).toNat_lt
  show le (l.drop (i + 1)) * 1 + (l[i]!).toNat / 256 = _
  omega
theorem part_eight {l : List UInt8} {i : Nat} (hi : i < l.length) : partL l i 8 = le (l.drop i) := by
  rw [List.drop_eq_getElem_cons hi]
  show le (l.drop (i + 1)) * 256 + (l[i]!).toNat / 1 = l[i].toNat + 256 * le (l.drop (i + 1))
  rw [getElem!_pos l i hi]
  omega
theorem part_next {l : List UInt8} {i t : Nat} (ht : t < 8) : partL l i (t + 1) = 2 * partL l i t + (l[i]!).toNat / 2 ^ (7 - t) % 2 := by
  unfold partL
  generalize (l[i]!).toNat = x
  generalize le (l.drop (i + 1)) = v
  have e1 : 8 - (t + 1) = 7 - t := by omega
  have e2 : 8 - t = (7 - t) + 1 := by omega
  rw [e1, e2, Nat.pow_succ, Nat.pow_succ, ← Nat.div_div_eq_div_mul]
  have e3 : v * (2 ^ t * 2) = 2 * (v * 2 ^ t) := by rw [← Nat.mul_assoc, Nat.mul_comm]
  rw [e3]
  omega

/-- The bytes of digits below L. -/
theorem bytes_of {m : List Int} (hm : m.length = 33) (hs : Small2 m) {v : Nat} (hv : V2 m = (v : Int)) (hlt : v < LL) : m[32]! = 0 ∧ (m.take 32).map (fun x => UInt8.ofNat x.toNat) = bytes 32 v := by
  have h1 := V2_take (l := m) (i := 32) (by omega)
  rw [show (32 : Nat) + 1 = 33 from rfl, List.take_of_length_le (by omega)] at h1
  have hs2 : Small2 (m.take 32) := fun x hx => hs x (List.mem_of_mem_take hx)
  have h2 := V2_small hs2
  rw [List.length_take, hm] at h2
  have h3 := small_get hs (i := 32) (by omega)
  have hW : W2 32 = 115792089237316195423570985008687907853269984665640564039457584007913129639936 := by decide
  have hW2 : W2 (min 32 33) = 115792089237316195423570985008687907853269984665640564039457584007913129639936 := by decide
  rw [hW] at h1
  rw [hW2] at h2
  have hLL : LL < 115792089237316195423570985008687907853269984665640564039457584007913129639936 := by decide
  have h0 : m[32]! = 0 := by omega
  refine ⟨h0, ?_⟩
  apply le_inj (by simp [bytes_len, hm])
  rw [le_bytes, show (256 : Nat) ^ 32 = 115792089237316195423570985008687907853269984665640564039457584007913129639936 by decide, Nat.mod_eq_of_lt (by omega)]
  have key : ∀ q : List Int, Small2 q → ((le (q.map (fun x => UInt8.ofNat x.toNat)) : Nat) : Int) = V2 q := by
    intro q
    induction q with
    | nil => intro _; rfl
    | cons x q ih =>
      intro hq
      have hx := hq x (List.mem_cons_self ..)
      have := ih (fun y hy => hq y (List.mem_cons_of_mem _ hy))
      show (((UInt8.ofNat x.toNat).toNat + 256 * le (q.map _) : Nat) : Int) = x + 256 * V2 q
      rw [UInt8.toNat_ofNat_of_lt' (by show _ < 256; omega)]
      omega
  have h5 := key _ hs2
  omega
end Nums
