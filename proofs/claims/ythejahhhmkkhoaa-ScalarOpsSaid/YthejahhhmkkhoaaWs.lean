import Derived.Test.YthejahhhmkkhoaaPack
/-
  PLAIN NUMBERS: a number as four words of 64 bits; sums with carries; the number modulo L out of five words. No program is imported.
-/
namespace Nums

/-- Four words of 64 bits, the least first. -/
def ws (n : Nat) : List Nat := [n % 18446744073709551616, n / 18446744073709551616 % 18446744073709551616, n / 340282366920938463463374607431768211456 % 18446744073709551616, n / 6277101735386680763835789423207666416102355444464034512896 % 18446744073709551616]
/-- The number of four words. -/
def v4 (a b c d : Nat) : Nat := a + 18446744073709551616 * b + 340282366920938463463374607431768211456 * c + 6277101735386680763835789423207666416102355444464034512896 * d
theorem ws_len (n : Nat) : (ws n).length = 4 := rfl
theorem ws_v4 {a b c d : Nat} (h0 : a < 18446744073709551616) (h1 : b < 18446744073709551616) (h2 : c < 18446744073709551616) (h3 : d < 18446744073709551616) : ws (v4 a b c d) = [a, b, c, d] := by
  unfold ws v4
  have e0 : (a + 18446744073709551616 * b + 340282366920938463463374607431768211456 * c + 6277101735386680763835789423207666416102355444464034512896 * d) % 18446744073709551616 = a := by omega
  have e1 : (a + 18446744073709551616 * b + 340282366920938463463374607431768211456 * c + 6277101735386680763835789423207666416102355444464034512896 * d) / 18446744073709551616 % 18446744073709551616 = b := by omega
  have e2 : (a + 18446744073709551616 * b + 340282366920938463463374607431768211456 * c + 6277101735386680763835789423207666416102355444464034512896 * d) / 340282366920938463463374607431768211456 % 18446744073709551616 = c := by omega
  have e3 : (a + 18446744073709551616 * b + 340282366920938463463374607431768211456 * c + 6277101735386680763835789423207666416102355444464034512896 * d) / 6277101735386680763835789423207666416102355444464034512896 % 18446744073709551616 = d := by omega
  rw [e0, e1, e2, e3]
/-- Each number below 2^256 is its words'. -/
theorem ws_cut {n : Nat} (h : n < 115792089237316195423570985008687907853269984665640564039457584007913129639936) :
    ∃ a b c d, n = v4 a b c d ∧ ws n = [a, b, c, d] ∧ a < 18446744073709551616 ∧ b < 18446744073709551616 ∧ c < 18446744073709551616 ∧ d < 18446744073709551616 := by
  refine ⟨_, _, _, _, ?_, rfl, Nat.mod_lt _ (by decide), Nat.mod_lt _ (by decide), Nat.mod_lt _ (by decide), Nat.mod_lt _ (by decide)⟩
  unfold v4
  omega
theorem ws_lt (n : Nat) : ∀ y ∈ ws n, y < 18446744073709551616 := by
  intro y hy
  simp only [ws, List.mem_cons, List.not_mem_nil, or_false] at hy
  rcases hy with rfl | rfl | rfl | rfl <;> exact Nat.mod_lt _ (by decide)
theorem ws_get_lt (n : Nat) {k : Nat} (hk : k < 4) : (ws n)[k]! < 18446744073709551616 :=
  ws_lt n _ (by rw [getElem!_pos (ws n) k hk]; exact List.getElem_mem _)

/-! ### Rows whose first k words have turned -/
def mxl (f : Nat → Nat) (l : List Nat) (k : Nat) : List Nat := (List.range l.length).map fun j => if j < k then f j else l[j]!
theorem mxl_len (f : Nat → Nat) (l : List Nat) (k : Nat) : (mxl f l k).length = l.length := by simp [mxl]
theorem mxl_zero (f : Nat → Nat) (l : List Nat) : mxl f l 0 = l := by
  apply List.ext_getElem (by simp [mxl])
  intro i h1 h2
  simp [mxl, h2]
theorem mxl_get (f : Nat → Nat) (l : List Nat) {k : Nat} (h : k < l.length) : (mxl f l k)[k]! = l[k]! := by
  rw [getElem!_pos _ k (by rw [mxl_len]; exact h)]
  simp [mxl]
theorem mxl_set (f : Nat → Nat) (l : List Nat) {k : Nat} : (mxl f l k).set k (f k) = mxl f l (k + 1) := by
  apply List.ext_getElem (by simp [mxl])
  intro j h1 h2
  rw [List.getElem_set]
  simp only [mxl, List.getElem_map, List.getElem_range]
  by_cases hjk : k = j
  · subst hjk
    simp
  · rw [if_neg hjk]
    by_cases hlt : j < k
    · rw [if_pos hlt, if_pos (by omega)]
    · rw [if_neg hlt, if_neg (by omega)]

/-! ### Sums -/
/-- What the sum carries into word k. -/
def sup (a b : List Nat) : Nat → Nat
  | 0 => 0
  | k + 1 => (a[k]! + b[k]! + sup a b k) / 18446744073709551616
/-- The sum's word k. -/
def swd (a b : List Nat) (k : Nat) : Nat := (a[k]! + b[k]! + sup a b k) % 18446744073709551616
theorem sup_le {a b : List Nat} (ha : ∀ k, k < 4 → a[k]! < 18446744073709551616) (hb : ∀ k, k < 4 → b[k]! < 18446744073709551616) : ∀ k, k ≤ 4 → sup a b k ≤ 1
  | 0, _ => Nat.zero_le _
  | k + 1, hk => by
    have := sup_le ha hb k (by omega)
    have := ha k (by omega)
    have := hb k (by omega)
    show (a[k]! + b[k]! + sup a b k) / 18446744073709551616 ≤ 1
    omega
theorem sum_ws {A B : Nat} (hA : A < 115792089237316195423570985008687907853269984665640564039457584007913129639936) (hB : B < 115792089237316195423570985008687907853269984665640564039457584007913129639936) :
    mxl (swd (ws A) (ws B)) (ws A) 4 = ws ((A + B) % 115792089237316195423570985008687907853269984665640564039457584007913129639936) := by
  obtain ⟨a0, a1, a2, a3, eA, wA, p0, p1, p2, p3⟩ := ws_cut hA
  obtain ⟨b0, b1, b2, b3, eB, wB, q0, q1, q2, q3⟩ := ws_cut hB
  rw [wA, wB]
  have e : mxl (swd [a0, a1, a2, a3] [b0, b1, b2, b3]) [a0, a1, a2, a3] 4 = [swd [a0, a1, a2, a3] [b0, b1, b2, b3] 0, swd [a0, a1, a2, a3] [b0, b1, b2, b3] 1, swd [a0, a1, a2, a3] [b0, b1, b2, b3] 2, swd [a0, a1, a2, a3] [b0, b1, b2, b3] 3] := rfl
  have g0 : sup [a0, a1, a2, a3] [b0, b1, b2, b3] 0 = 0 := rfl
  have g1 : sup [a0, a1, a2, a3] [b0, b1, b2, b3] 1 = (a0 + b0 + sup [a0, a1, a2, a3] [b0, b1, b2, b3] 0) / 18446744073709551616 := rfl
  have g2 : sup [a0, a1, a2, a3] [b0, b1, b2, b3] 2 = (a1 + b1 + sup [a0, a1, a2, a3] [b0, b1, b2, b3] 1) / 18446744073709551616 := rfl
  have g3 : sup [a0, a1, a2, a3] [b0, b1, b2, b3] 3 = (a2 + b2 + sup [a0, a1, a2, a3] [b0, b1, b2, b3] 2) / 18446744073709551616 := rfl
  have s0 : swd [a0, a1, a2, a3] [b0, b1, b2, b3] 0 = (a0 + b0 + sup [a0, a1, a2, a3] [b0, b1, b2, b3] 0) % 18446744073709551616 := rfl
  have s1 : swd [a0, a1, a2, a3] [b0, b1, b2, b3] 1 = (a1 + b1 + sup [a0, a1, a2, a3] [b0, b1, b2, b3] 1) % 18446744073709551616 := rfl
  have s2 : swd [a0, a1, a2, a3] [b0, b1, b2, b3] 2 = (a2 + b2 + sup [a0, a1, a2, a3] [b0, b1, b2, b3] 2) % 18446744073709551616 := rfl
  have s3 : swd [a0, a1, a2, a3] [b0, b1, b2, b3] 3 = (a3 + b3 + sup [a0, a1, a2, a3] [b0, b1, b2, b3] 3) % 18446744073709551616 := rfl
  rw [e]
  generalize swd [a0, a1, a2, a3] [b0, b1, b2, b3] 0 = x0 at *
  generalize swd [a0, a1, a2, a3] [b0, b1, b2, b3] 1 = x1 at *
  generalize swd [a0, a1, a2, a3] [b0, b1, b2, b3] 2 = x2 at *
  generalize swd [a0, a1, a2, a3] [b0, b1, b2, b3] 3 = x3 at *
  generalize sup [a0, a1, a2, a3] [b0, b1, b2, b3] 0 = c0 at *
  generalize sup [a0, a1, a2, a3] [b0, b1, b2, b3] 1 = c1 at *
  generalize sup [a0, a1, a2, a3] [b0, b1, b2, b3] 2 = c2 at *
  generalize sup [a0, a1, a2, a3] [b0, b1, b2, b3] 3 = c3 at *
  have hx : (A + B) % 115792089237316195423570985008687907853269984665640564039457584007913129639936 = v4 x0 x1 x2 x3 := by
    rw [eA, eB]
    unfold v4
    clear e wA wB hA hB eA eB
    omega
  rw [hx, ws_v4 (by omega) (by omega) (by omega) (by omega)]

/-! ### Five words modulo L -/
theorem LL_eq : LL = 7237005577332262213973186563042994240857116359379907606001950938285454250989 := rfl
/-- The rest, with what was borrowed. -/
theorem rest_L {v0 v1 v2 v3 t m0 m1 p1 r0 r1 r2 r3 l0 l1 l2 l3 V : Nat} (h0 : v0 < 18446744073709551616) (h1 : v1 < 18446744073709551616) (h2 : v2 < 18446744073709551616) (h3 : v3 < 1152921504606846976) (ht : t < 34359738368)
    (hm0 : m0 = t * 6346243789798364141) (hm1 : m1 = t * 1503914060200516822) (hp1 : p1 = m1 % 18446744073709551616 + m0 / 18446744073709551616)
    (hl0 : l0 = if v0 < m0 % 18446744073709551616 + 0 then 1 else 0) (hr0 : r0 = (v0 + 18446744073709551616 - m0 % 18446744073709551616 - 0) % 18446744073709551616)
    (hl1 : l1 = if v1 < p1 % 18446744073709551616 + l0 then 1 else 0) (hr1 : r1 = (v1 + 18446744073709551616 - p1 % 18446744073709551616 - l0) % 18446744073709551616)
    (hl2 : l2 = if v2 < m1 / 18446744073709551616 + p1 / 18446744073709551616 + l1 then 1 else 0) (hr2 : r2 = (v2 + 18446744073709551616 - (m1 / 18446744073709551616 + p1 / 18446744073709551616) - l1) % 18446744073709551616)
    (hl3 : l3 = if v3 < 0 + l2 then 1 else 0) (hr3 : r3 = (v3 + 18446744073709551616 - 0 - l2) % 18446744073709551616)
    (hV : V = v4 v0 v1 v2 v3 + 7237005577332262213973186563042994240829374041602535252466099000494570602496 * t) :
    (l3 = 0 → v4 r0 r1 r2 r3 = V % LL) ∧ (l3 = 1 → (v4 r0 r1 r2 r3 + LL) % 115792089237316195423570985008687907853269984665640564039457584007913129639936 = V % LL) ∧ l3 ≤ 1 ∧ l0 ≤ 1 ∧ l1 ≤ 1 ∧ l2 ≤ 1 ∧
      r0 < 18446744073709551616 ∧ r1 < 18446744073709551616 ∧ r2 < 18446744073709551616 ∧ r3 < 18446744073709551616 := by
  have b0 : l0 ≤ 1 := by rw [hl0]; split <;> omega
  have b1 : l1 ≤ 1 := by rw [hl1]; split <;> omega
  have b2 : l2 ≤ 1 := by rw [hl2]; split <;> omega
  have b3 : l3 ≤ 1 := by rw [hl3]; split <;> omega
  have d0 : r0 + m0 % 18446744073709551616 = v0 + 18446744073709551616 * l0 := by rw [hr0, hl0]; split <;> omega
  have d1 : r1 + p1 % 18446744073709551616 + l0 = v1 + 18446744073709551616 * l1 := by rw [hr1, hl1]; split <;> omega
  have hm : m1 / 18446744073709551616 < 17179869184 := by omega
  have hp : p1 / 18446744073709551616 < 2 := by omega
  have d2 : r2 + (m1 / 18446744073709551616 + p1 / 18446744073709551616) + l1 = v2 + 18446744073709551616 * l2 := by rw [hr2, hl2]; split <;> omega
  have d3 : r3 + l2 = v3 + 18446744073709551616 * l3 := by rw [hr3, hl3]; split <;> omega
  have c0 : r0 < 18446744073709551616 := by omega
  have c1 : r1 < 18446744073709551616 := by omega
  have c2 : r2 < 18446744073709551616 := by omega
  have c3 : r3 < 18446744073709551616 := by omega
  clear hr0 hr1 hr2 hr3 hl0 hl1 hl2 hl3
  have key : v4 r0 r1 r2 r3 + m0 + 18446744073709551616 * m1 = v4 v0 v1 v2 v3 + 115792089237316195423570985008687907853269984665640564039457584007913129639936 * l3 := by
    unfold v4
    omega
  have hlow : v4 v0 v1 v2 v3 < 7237005577332262213973186563042994240829374041602535252466099000494570602496 := by
    unfold v4
    omega
  have hR : v4 r0 r1 r2 r3 < 115792089237316195423570985008687907853269984665640564039457584007913129639936 := by
    unfold v4
    omega
  clear d0 d1 d2 d3 hp1 hm hp
  refine ⟨fun h => ?_, fun h => ?_, b3, b0, b1, b2, c0, c1, c2, c3⟩
  · have e : V = v4 r0 r1 r2 r3 + LL * t := by
      rw [hV, LL_eq]
      omega
    rw [e, Nat.add_mul_mod_self_left, Nat.mod_eq_of_lt]
    rw [LL_eq]
    omega
  · have hg : 115792089237316195423570985008687907853269984665640564039457584007913129639936 ≤ v4 r0 r1 r2 r3 + LL := by
      rw [LL_eq]
      omega
    have e : V + LL = (v4 r0 r1 r2 r3 + LL - 115792089237316195423570985008687907853269984665640564039457584007913129639936) + LL * t := by
      rw [hV, LL_eq] at *
      omega
    have e2 : V % LL = (V + LL) % LL := by rw [Nat.add_mod_right]
    rw [e2, e, Nat.add_mul_mod_self_left, Nat.mod_eq_sub_mod hg, Nat.mod_eq_of_lt, Nat.mod_eq_of_lt]
    · rw [LL_eq] at *
      omega
    · rw [LL_eq] at *
      omega
end Nums
