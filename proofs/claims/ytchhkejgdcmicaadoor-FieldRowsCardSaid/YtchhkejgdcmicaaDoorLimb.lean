import Derived.Test.YtchhkejgdcmicaaDoorHigh
/-
  PLAIN NUMBERS: five limbs of 51 bits as numbers modulo p: carries, sums, differences, products, the number below p. No program is imported.
-/
namespace Nums

/-- The number of a row of limbs, the least first. -/
def lv : List Nat → Nat
  | [] => 0
  | d :: ds => d + 2251799813685248 * lv ds

theorem lv5 (a0 a1 a2 a3 a4 : Nat) : lv [a0, a1, a2, a3, a4] = a0 + 2251799813685248 * (a1 + 2251799813685248 * (a2 + 2251799813685248 * (a3 + 2251799813685248 * a4))) := by
  simp only [lv, Nat.mul_zero, Nat.add_zero]

/-- Five limbs, each below 2^51 + 2^18, that are x modulo p. -/
structure EB (l : List Nat) (x : F) : Prop where
  len : l.length = 5
  bnd : ∀ y ∈ l, y < 2251799813947392
  val : fof (lv l) = x

theorem five {l : List Nat} (h : l.length = 5) : ∃ a0 a1 a2 a3 a4, l = [a0, a1, a2, a3, a4] := by
  match l, h with
  | [a0, a1, a2, a3, a4], _ => exact ⟨a0, a1, a2, a3, a4, rfl⟩

theorem EB.five {l : List Nat} {x : F} (h : EB l x) : ∃ a0 a1 a2 a3 a4, l = [a0, a1, a2, a3, a4] ∧ a0 < 2251799813947392 ∧ a1 < 2251799813947392 ∧ a2 < 2251799813947392 ∧ a3 < 2251799813947392 ∧ a4 < 2251799813947392 ∧ fof (lv [a0, a1, a2, a3, a4]) = x := by
  obtain ⟨a0, a1, a2, a3, a4, rfl⟩ := Nums.five h.len
  have hb := h.bnd
  exact ⟨a0, a1, a2, a3, a4, rfl, hb _ (by simp), hb _ (by simp), hb _ (by simp), hb _ (by simp), hb _ (by simp), h.val⟩

theorem EB.mk5 {a0 a1 a2 a3 a4 : Nat} {x : F} (h0 : a0 < 2251799813947392) (h1 : a1 < 2251799813947392) (h2 : a2 < 2251799813947392) (h3 : a3 < 2251799813947392) (h4 : a4 < 2251799813947392) (h : fof (lv [a0, a1, a2, a3, a4]) = x) :
    EB [a0, a1, a2, a3, a4] x := by
  refine ⟨rfl, ?_, h⟩
  intro y hy
  simp only [List.mem_cons, List.not_mem_nil, or_false] at hy
  rcases hy with rfl | rfl | rfl | rfl | rfl <;> assumption

theorem p_eq : p = 57896044618658097711785492504343953926634992332820282019728792003956564819949 := by decide

/-- The carries: what goes out above comes back 19 times. -/
def crd (a0 a1 a2 a3 a4 : Nat) : List Nat :=
  [a0 % 2251799813685248 + 19 * (a4 / 2251799813685248), a1 % 2251799813685248 + a0 / 2251799813685248, a2 % 2251799813685248 + a1 / 2251799813685248, a3 % 2251799813685248 + a2 / 2251799813685248, a4 % 2251799813685248 + a3 / 2251799813685248]

theorem fof_p (a k : Nat) : fof (a + p * k) = fof a := fof_eq (by rw [Nat.add_mul_mod_self_left])

theorem crd_lv (a0 a1 a2 a3 a4 : Nat) : fof (lv (crd a0 a1 a2 a3 a4)) = fof (lv [a0, a1, a2, a3, a4]) := by
  have h : lv (crd a0 a1 a2 a3 a4) + p * (a4 / 2251799813685248) = lv [a0, a1, a2, a3, a4] := by
    unfold crd
    rw [lv5, lv5, p_eq]
    omega
  rw [← h, fof_p]

theorem crd_eb {a0 a1 a2 a3 a4 : Nat} (h0 : a0 < 18446744073709551616) (h1 : a1 < 18446744073709551616) (h2 : a2 < 18446744073709551616) (h3 : a3 < 18446744073709551616) (h4 : a4 < 18446744073709551616) :
    EB (crd a0 a1 a2 a3 a4) (fof (lv [a0, a1, a2, a3, a4])) :=
  EB.mk5 (by omega) (by omega) (by omega) (by omega) (by omega) (crd_lv a0 a1 a2 a3 a4)

theorem add_lv (a0 a1 a2 a3 a4 b0 b1 b2 b3 b4 : Nat) : lv [a0 + b0, a1 + b1, a2 + b2, a3 + b3, a4 + b4] = lv [a0, a1, a2, a3, a4] + lv [b0, b1, b2, b3, b4] := by
  rw [lv5, lv5, lv5]
  omega

theorem sub_lv {a0 a1 a2 a3 a4 b0 b1 b2 b3 b4 : Nat} (h0 : b0 < 2251799813947392) (h1 : b1 < 2251799813947392) (h2 : b2 < 2251799813947392) (h3 : b3 < 2251799813947392) (h4 : b4 < 2251799813947392) :
    fof (lv [a0 + (4503599627370458 - b0), a1 + (4503599627370494 - b1), a2 + (4503599627370494 - b2), a3 + (4503599627370494 - b3), a4 + (4503599627370494 - b4)]) = fof (lv [a0, a1, a2, a3, a4]) - fof (lv [b0, b1, b2, b3, b4]) := by
  have h : lv [a0 + (4503599627370458 - b0), a1 + (4503599627370494 - b1), a2 + (4503599627370494 - b2), a3 + (4503599627370494 - b3), a4 + (4503599627370494 - b4)] + lv [b0, b1, b2, b3, b4] = lv [a0, a1, a2, a3, a4] + p * 2 := by
    rw [lv5, lv5, lv5, p_eq]
    omega
  have h2 : fof (lv [a0, a1, a2, a3, a4]) = fof (lv [a0 + (4503599627370458 - b0), a1 + (4503599627370494 - b1), a2 + (4503599627370494 - b2), a3 + (4503599627370494 - b3), a4 + (4503599627370494 - b4)]) + fof (lv [b0, b1, b2, b3, b4]) := by
    rw [← fof_add, h, fof_p]
  rw [h2]
  generalize fof (lv [a0 + (4503599627370458 - b0), a1 + (4503599627370494 - b1), a2 + (4503599627370494 - b2), a3 + (4503599627370494 - b3), a4 + (4503599627370494 - b4)]) = u
  generalize fof (lv [b0, b1, b2, b3, b4]) = v
  grind only

/-- A row turned by one limb: 2^51 times. -/
theorem turn_lv (c0 c1 c2 c3 c4 : Nat) : fof (lv [19 * c4, c0, c1, c2, c3]) = fof 2251799813685248 * fof (lv [c0, c1, c2, c3, c4]) := by
  have h : lv [19 * c4, c0, c1, c2, c3] + p * c4 = 2251799813685248 * lv [c0, c1, c2, c3, c4] := by
    rw [lv5, lv5, p_eq]
    omega
  rw [← fof_mul, ← h, fof_p]

/-- A row of products more. -/
theorem more_lv (s0 s1 s2 s3 s4 v c0 c1 c2 c3 c4 : Nat) : lv [s0 + v * c0, s1 + v * c1, s2 + v * c2, s3 + v * c3, s4 + v * c4] = lv [s0, s1, s2, s3, s4] + v * lv [c0, c1, c2, c3, c4] := by
  rw [lv5, lv5, lv5]
  grind only

/-! ### The number below p -/
/-- What the first run carries out: is the number p or more? -/
def up1 (l : List Nat) (u : Nat) : Nat → Nat
  | 0 => u
  | k + 1 => (l[k]! + up1 l u k) / 2251799813685248

/-- What the second run carries. -/
def up2 (l : List Nat) (u : Nat) : Nat → Nat
  | 0 => u
  | k + 1 => (up2 l u k + l[k]!) / 2251799813685248

/-- The row when k limbs are whole. -/
def whs (l : List Nat) (u k : Nat) : List Nat := (List.range 5).map fun j => if j < k then (up2 l u j + l[j]!) % 2251799813685248 else l[j]!
def whole (l : List Nat) : List Nat := whs l (up1 l 19 5 * 19) 5

theorem whole_all {l : List Nat} {x : F} (h : EB l x) : (whole l).length = 5 ∧ (∀ y ∈ whole l, y < 2251799813685248) ∧ lv (whole l) = x.val := by
  refine ⟨by simp [whole, whs], ?_, ?_⟩
  · intro y hy
    obtain ⟨j, hj, rfl⟩ := List.mem_map.1 hy
    rw [if_pos (by simpa using hj)]
    exact Nat.mod_lt _ (by decide)
  · obtain ⟨a0, a1, a2, a3, a4, rfl, h0, h1, h2, h3, h4, hv⟩ := h.five
    have hw : whole [a0, a1, a2, a3, a4] = [(up2 [a0, a1, a2, a3, a4] (up1 [a0, a1, a2, a3, a4] 19 5 * 19) 0 + a0) % 2251799813685248, (up2 [a0, a1, a2, a3, a4] (up1 [a0, a1, a2, a3, a4] 19 5 * 19) 1 + a1) % 2251799813685248, (up2 [a0, a1, a2, a3, a4] (up1 [a0, a1, a2, a3, a4] 19 5 * 19) 2 + a2) % 2251799813685248, (up2 [a0, a1, a2, a3, a4] (up1 [a0, a1, a2, a3, a4] 19 5 * 19) 3 + a3) % 2251799813685248, (up2 [a0, a1, a2, a3, a4] (up1 [a0, a1, a2, a3, a4] 19 5 * 19) 4 + a4) % 2251799813685248] := rfl
    have hu : up1 [a0, a1, a2, a3, a4] 19 5 = (a4 + (a3 + (a2 + (a1 + (a0 + 19) / 2251799813685248) / 2251799813685248) / 2251799813685248) / 2251799813685248) / 2251799813685248 := rfl
    rw [← hv, fof_val, hw]
    generalize hq : up1 [a0, a1, a2, a3, a4] 19 5 = q at *
    have g0 : up2 [a0, a1, a2, a3, a4] (q * 19) 0 = q * 19 := rfl
    have g1 : up2 [a0, a1, a2, a3, a4] (q * 19) 1 = (up2 [a0, a1, a2, a3, a4] (q * 19) 0 + a0) / 2251799813685248 := rfl
    have g2 : up2 [a0, a1, a2, a3, a4] (q * 19) 2 = (up2 [a0, a1, a2, a3, a4] (q * 19) 1 + a1) / 2251799813685248 := rfl
    have g3 : up2 [a0, a1, a2, a3, a4] (q * 19) 3 = (up2 [a0, a1, a2, a3, a4] (q * 19) 2 + a2) / 2251799813685248 := rfl
    have g4 : up2 [a0, a1, a2, a3, a4] (q * 19) 4 = (up2 [a0, a1, a2, a3, a4] (q * 19) 3 + a3) / 2251799813685248 := rfl
    generalize up2 [a0, a1, a2, a3, a4] (q * 19) 0 = e0 at *
    generalize up2 [a0, a1, a2, a3, a4] (q * 19) 1 = e1 at *
    generalize up2 [a0, a1, a2, a3, a4] (q * 19) 2 = e2 at *
    generalize up2 [a0, a1, a2, a3, a4] (q * 19) 3 = e3 at *
    generalize up2 [a0, a1, a2, a3, a4] (q * 19) 4 = e4 at *
    have hL := lv5 a0 a1 a2 a3 a4
    generalize lv [a0, a1, a2, a3, a4] = L at *
    rw [lv5]
    have hp := p_eq
    generalize p = P at *
    have ha : q < 2 := by omega
    have hb : q = 0 → L < P := by omega
    have hc : q = 1 → P ≤ L := by omega
    have hd : L < 2 * P := by omega
    rcases (show q = 0 ∨ q = 1 by omega) with rfl | rfl
    · rw [Nat.mod_eq_of_lt (hb rfl)]
      clear hu hc hd hv
      have := hb rfl
      omega
    · have hge := hc rfl
      have hm : L % P = L - P := by rw [Nat.mod_eq_sub_mod hge, Nat.mod_eq_of_lt (by omega)]
      rw [hm]
      clear hu hb hv hm
      omega

end Nums
