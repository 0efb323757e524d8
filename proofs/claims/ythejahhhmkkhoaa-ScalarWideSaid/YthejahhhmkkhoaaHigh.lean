/-
PLAIN NUMBERS: the bytes of the curve's points: a point is told by its bytes; which bytes are points. No program is imported.
PLAIN NUMBERS: the lowest and the highest byte of 32. No program is imported.
-/
import Derived.Test.YthejahhhmkkhoaaPack
namespace Nums

theorem zz {n : Nat} [NeZero n] (d : Fin n) : 0 * 0 * d + 1 = 1 := by grind only
theorem neg_sq (a : F) : -a * -a = a * a := by grind only

/-- The even root of a number, by the candidate and the root of -1. -/
def evenOf (x : F) : F := if x.val % 2 = 1 then -x else x
theorem evenOf_even (x : F) : (evenOf x).val % 2 = 0 := by
  unfold evenOf
  by_cases h : x.val % 2 = 1
  · rw [if_pos h, neg_odd (by rintro rfl; exact absurd h (by decide)), h]
  · rw [if_neg h]; omega
theorem evenOf_sq (x : F) : evenOf x * evenOf x = x * x := by
  unfold evenOf
  by_cases h : x.val % 2 = 1
  · rw [if_pos h]; grind only
  · rw [if_neg h]

/-- Roots of one square with one parity are one. -/
theorem root_one {a b : F} (h : a * a = b * b) (hp : a.val % 2 = b.val % 2) : a = b := by
  rcases root_or prime_p h with h1 | h1
  · exact h1
  · by_cases h0 : b = 0
    · rw [h1, h0]; grind only
    · have := neg_odd h0
      rw [← h1] at this
      omega

/-- The candidate, turned by the root of -1 where it must be. -/
def rootc (w : F) : F := if cand w * cand w = w then cand w else cand w * im
theorem rootc_iff (w : F) : (∃ x, x * x = w) ↔ rootc w * rootc w = w := by
  constructor
  · rintro ⟨x, hx⟩
    unfold rootc
    by_cases h0 : w = 0
    · have : cand w * cand w = w := by rw [h0, cand_zero]; grind only
      rw [if_pos this, this]
    · have h : fpow w ph = 1 := by
        rw [← hx]
        apply euler_sq
        rintro rfl
        exact h0 (by rw [← hx]; grind only)
      by_cases hc : cand w * cand w = w
      · rw [if_pos hc, hc]
      · rw [if_neg hc]
        rcases root_of h with h1 | h1
        · exact absurd h1 hc
        · exact h1
  · intro h
    exact ⟨_, h⟩
theorem square_iff (w : F) : (∃ x, x * x = w) ↔ fpow w ph = 1 ∨ fpow w ph = 0 := by
  constructor
  · rintro ⟨x, hx⟩
    by_cases h0 : w = 0
    · right; rw [h0]; exact zero_fpow ph_pos
    · left
      rw [← hx]
      apply euler_sq
      rintro rfl
      exact h0 (by rw [← hx]; grind only)
  · intro h
    by_cases h0 : w = 0
    · exact ⟨0, by rw [h0]; grind only⟩
    · rcases h with h | h
      · rcases root_of h with h1 | h1
        · exact ⟨_, h1⟩
        · exact ⟨_, h1⟩
      · rcases euler_or h0 with h1 | h1
        · rw [h1] at h
          exact absurd h.symm (ne_one prime_p)
        · rw [h1] at h
          have h2 : (1 : F) = -(-1) := by grind only
          have h3 : (-(0 : F)) = 0 := by grind only
          rw [h, h3] at h2
          exact absurd h2.symm (ne_one prime_p)

/-- The even root. -/
def rootE (w : F) : F := evenOf (rootc w)
theorem rootE_sq {w : F} (h : ∃ x, x * x = w) : rootE w * rootE w = w := by
  unfold rootE
  rw [evenOf_sq]
  exact (rootc_iff w).mp h
theorem rootE_even (w : F) : (rootE w).val % 2 = 0 := evenOf_even _

/-- What a root's square is multiplied by is not 0. -/
theorem vv_ne (y : F) : y * y * dd + 1 ≠ 0 := by
  intro h
  have hy : y ≠ 0 := by
    rintro rfl
    have e : (0 : F) * 0 * dd + 1 = 1 := zz dd
    rw [e] at h
    exact ne_one prime_p h.symm
  have h1 := mul_finv prime_p hy
  refine good.d (im * finv y) ?_
  have hi := im_im
  generalize finv y = z at *
  generalize im = i at *
  generalize dd = d at *
  have a : i * z * (i * z) = (i * i) * (z * z) := by grind only
  have b : d = -(1 : F) * (z * z) := by
    have c : d * (y * z) * (y * z) = (y * y * d) * (z * z) := by grind only
    have e : y * y * d = -1 := by grind only
    rw [h1, e] at c
    grind only
  rw [a, hi, b]

/-- The square that an x must have, of a y. -/
def ww (y : F) : F := (y * y - 1) * finv (y * y * dd + 1)
theorem on_iff (x y : F) : Ed.On dd ⟨x, y⟩ ↔ x * x = ww y := by
  have h := mul_finv prime_p (vv_ne y)
  unfold ww
  show y * y - x * x = 1 + dd * x * x * y * y ↔ _
  have hv := vv_ne y
  generalize hV : y * y * dd + 1 = v at *
  generalize finv v = u at *
  generalize dd = d at *
  constructor
  · intro h1
    have a : y * y - 1 = x * x * v := by rw [← hV]; grind only
    have b : x * x * v * u = x * x * (v * u) := by grind only
    rw [a, b, h]
    grind only
  · intro h1
    have a : x * x * v = y * y - 1 := by
      have b : (y * y - 1) * u * v = (y * y - 1) * (v * u) := by grind only
      rw [h1, b, h]
      grind only
    rw [← hV] at a
    grind only

/-- A point's bytes: y's, and x's lowest bit above them. -/
def encN (P : Ed.Pt p) : Nat := P.y.val + 57896044618658097711785492504343953926634992332820282019728792003956564819968 * (P.x.val % 2)
def encP (P : Ed.Pt p) : List UInt8 := bytes 32 (encN P)
theorem encP_len (P : Ed.Pt p) : (encP P).length = 32 := bytes_len _ _
theorem p_lt : p < 57896044618658097711785492504343953926634992332820282019728792003956564819968 := by decide
theorem le_encP (P : Ed.Pt p) : le (encP P) = encN P := by
  unfold encP
  rw [le_bytes]
  apply Nat.mod_eq_of_lt
  have h := P.y.isLt
  have h2 := p_lt
  have h3 : 57896044618658097711785492504343953926634992332820282019728792003956564819968 * 2 = 256 ^ 32 := by decide
  unfold encN
  omega
theorem encN_inj {P Q : Ed.Pt p} (h : encN P = encN Q) : P.y = Q.y ∧ P.x.val % 2 = Q.x.val % 2 := by
  unfold encN at h
  have h1 := P.y.isLt
  have h2 := Q.y.isLt
  have h3 := p_lt
  exact ⟨Fin.ext (by omega), by omega⟩

theorem encP_inj {P Q : Ed.Pt p} (hP : Ed.On dd P) (hQ : Ed.On dd Q) (h : encP P = encP Q) : P = Q := by
  have h1 : encN P = encN Q := by rw [← le_encP, ← le_encP, h]
  obtain ⟨h2, h3⟩ := encN_inj h1
  obtain ⟨x, y⟩ := P
  obtain ⟨u, v⟩ := Q
  simp only at h2 h3
  subst h2
  have a := (on_iff x y).mp hP
  have b := (on_iff u y).mp hQ
  rw [root_one (a.trans b.symm) h3]

/-- The bytes that are a point's: the number below p under the highest bit, the square's root, and no odd 0. -/
theorem enc_iff {b : List UInt8} (hb : b.length = 32) (y : F) (s : Nat) (hs : s < 2) (hle : le b = y.val + 57896044618658097711785492504343953926634992332820282019728792003956564819968 * s) :
    (∃ P, Ed.On dd P ∧ encP P = b) ↔ (∃ x, x * x = ww y) ∧ ¬ (s = 1 ∧ rootE (ww y) = 0) := by
  constructor
  · rintro ⟨⟨x, y2⟩, hP, rfl⟩
    rw [le_encP] at hle
    unfold encN at hle
    simp only at hle
    have h1 := y.isLt
    have h2 := y2.isLt
    have h3 := p_lt
    have e : y2 = y := Fin.ext (by omega)
    subst e
    have hx := (on_iff x y2).mp hP
    refine ⟨⟨x, hx⟩, ?_⟩
    rintro ⟨rfl, h0⟩
    have h4 := rootE_sq ⟨x, hx⟩
    rw [h0] at h4
    have h5 : x * x = 0 := by rw [hx, ← h4]; grind only
    have h6 : x = 0 := by rcases zero_or prime_p h5 with h | h <;> exact h
    subst h6
    have : ((0 : F)).val % 2 = 0 := by decide
    omega
  · rintro ⟨hx, hn⟩
    have h1 := rootE_sq hx
    have h2 := rootE_even (ww y)
    have h3 := y.isLt
    by_cases h : s = 1
    · subst h
      have h0 : rootE (ww y) ≠ 0 := fun h => hn ⟨rfl, h⟩
      refine ⟨⟨-rootE (ww y), y⟩, (on_iff _ _).mpr (by rw [neg_sq]; exact h1), ?_⟩
      apply le_inj (by rw [encP_len, hb])
      rw [le_encP, hle]
      unfold encN
      simp only
      rw [neg_odd h0, h2]
    · refine ⟨⟨rootE (ww y), y⟩, (on_iff _ _).mpr h1, ?_⟩
      apply le_inj (by rw [encP_len, hb])
      rw [le_encP, hle]
      unfold encN
      simp only
      rw [h2]
      omega

/-- The base point's y is 4 / 5, its x the even root. -/
theorem base_y : fof bY = fof 4 * finv (fof 5) := by
  have h0 : fof 5 ≠ 0 := fun h => by
    have := congrArg Fin.val h
    revert this
    decide
  have h1 : fof bY * fof 5 = fof 4 := by rw [← fof_mul]; exact fof_eq (by decide)
  rw [← h1]
  have h2 := mul_finv prime_p h0
  generalize fof 5 = v at *
  generalize finv v = w at *
  generalize fof bY = u at *
  grind only
theorem base_x : rootE (ww (fof bY)) = fof bx := by
  have h := (on_iff (fof bx) (fof bY)).mp on_base
  apply root_one
  · rw [rootE_sq ⟨_, h⟩, h]
  · rw [rootE_even]
    decide

end Nums

namespace Nums

theorem le_append : ∀ a b : List UInt8, le (a ++ b) = le a + 256 ^ a.length * le b
  | [], b => by show le b = 0 + 1 * le b; omega
  | x :: a, b => by
    show x.toNat + 256 * le (a ++ b) = x.toNat + 256 * le a + 256 ^ (a.length + 1) * le b
    rw [le_append a b, Nat.pow_succ, Nat.mul_add, Nat.mul_comm (256 ^ a.length) 256, Nat.mul_assoc]
    omega
theorem le_lt : ∀ a : List UInt8, le a < 256 ^ a.length
  | [] => by decide
  | x :: a => by
    have h1 := le_lt a
    have h2 := x.toNat_lt
    show x.toNat + 256 * le a < 256 ^ (a.length + 1)
    rw [Nat.pow_succ]
    omega
theorem le_low {b : List UInt8} (h : 0 < b.length) : (b[0]!).toNat % 2 = le b % 2 := by
  cases b with
  | nil => simp at h
  | cons x b =>
    show x.toNat % 2 = (x.toNat + 256 * le b) % 2
    omega

section
variable {b : List UInt8} (hb : b.length = 32)
include hb
theorem cut31 : b = b.take 31 ++ [b[31]!] := by
  conv => lhs; rw [← List.take_append_drop 31 b]
  rw [List.drop_eq_getElem_cons (by omega), List.drop_eq_nil_of_le (by omega), getElem!_pos b 31 (by omega)]
theorem le_top : le b = le (b.take 31) + 452312848583266388373324160190187140051835877600158453279131187530910662656 * (b[31]!).toNat := by
  conv => lhs; rw [cut31 hb]
  rw [le_append, List.length_take, hb]
  show _ + 256 ^ 31 * ((b[31]!).toNat + 256 * 0) = _
  rw [show (256 : Nat) ^ 31 = 452312848583266388373324160190187140051835877600158453279131187530910662656 by decide]
  omega
theorem le_rest : le (b.take 31) < 452312848583266388373324160190187140051835877600158453279131187530910662656 := by
  have h := le_lt (b.take 31)
  rw [List.length_take, hb, show (256 : Nat) ^ min 31 32 = 452312848583266388373324160190187140051835877600158453279131187530910662656 by decide] at h
  exact h
theorem set31 (x : UInt8) : le (b.set 31 x) = le (b.take 31) + 452312848583266388373324160190187140051835877600158453279131187530910662656 * x.toNat := by
  have h : (b.set 31 x).length = 32 := by rw [List.length_set, hb]
  rw [le_top h, List.take_set_of_le (by omega), getElem!_pos _ 31 (by omega), List.getElem_set_self]
theorem top_iff : (b[31]!).toNat < 128 ↔ le b < 57896044618658097711785492504343953926634992332820282019728792003956564819968 := by
  have h1 := le_top hb
  have h2 := le_rest hb
  omega
end

/-- A point's bytes: those of y, the highest bit being x's parity. -/
theorem encP_even {P : Ed.Pt p} (h : P.x.val % 2 ≠ 1) : encP P = enc P.y := by
  apply le_inj (by rw [encP_len, enc_len])
  rw [le_encP, le_enc]
  unfold encN
  have : P.x.val % 2 = 0 := by omega
  rw [this]
  omega
theorem enc_top (y : F) : ((enc y)[31]!).toNat < 128 := by
  rw [top_iff (enc_len y), le_enc]
  exact Nat.lt_trans y.isLt p_lt
theorem encP_odd {P : Ed.Pt p} (h : P.x.val % 2 = 1) : encP P = (enc P.y).set 31 (UInt8.ofNat (((enc P.y)[31]!).toNat + 128)) := by
  apply le_inj (by rw [encP_len, List.length_set, enc_len])
  have h1 := enc_top P.y
  have h2 := le_top (enc_len P.y)
  rw [le_encP, set31 (enc_len P.y), UInt8.toNat_ofNat_of_lt' (by show _ < 256; omega)]
  rw [le_enc] at h2
  unfold encN
  rw [h]
  omega
end Nums
