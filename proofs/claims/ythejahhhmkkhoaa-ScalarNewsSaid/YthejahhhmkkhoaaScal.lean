/-
  PLAIN NUMBERS: rows of digits of 256, and L's. No program is imported.
-/
import Derived.Test.YthejahhhmkkhoaaSteps
namespace Nums

def V2 : List Int → Int
  | [] => 0
  | d :: ds => d + 256 * V2 ds
def W2 : Nat → Int
  | 0 => 1
  | k + 1 => 256 * W2 k
def Small2 (l : List Int) : Prop := ∀ x ∈ l, 0 ≤ x ∧ x < 256
theorem W2_pos : ∀ k, 0 < W2 k
  | 0 => by decide
  | k + 1 => by have := W2_pos k; show 0 < 256 * W2 k; omega
theorem V2_append (a b : List Int) : V2 (a ++ b) = V2 a + W2 a.length * V2 b := by
  induction a with
  | nil => show V2 b = 0 + 1 * V2 b; omega
  | cons d ds ih =>
    show d + 256 * V2 (ds ++ b) = d + 256 * V2 ds + 256 * W2 ds.length * V2 b
    rw [ih]
    grind only
theorem V2_small {l : List Int} (h : Small2 l) : 0 ≤ V2 l ∧ V2 l < W2 l.length := by
  induction l with
  | nil => exact ⟨by decide, by decide⟩
  | cons d ds ih =>
    have h1 := ih (fun x hx => h x (List.mem_cons_of_mem _ hx))
    have h2 := h d (List.mem_cons_self ..)
    show 0 ≤ d + 256 * V2 ds ∧ d + 256 * V2 ds < 256 * W2 ds.length
    omega

theorem V2_split {l : List Int} {k : Nat} (h : k < l.length) : V2 l = V2 (l.take k) + W2 k * (l[k]! + 256 * V2 (l.drop (k + 1))) := by
  conv => lhs; rw [← List.take_append_drop k l]
  rw [V2_append, List.length_take, Nat.min_eq_left (by omega), List.drop_eq_getElem_cons h, getElem!_pos l k h]
  rfl

/-- The highest digit that differs decides. -/
theorem V2_lt {a b : List Int} {k : Nat} (ha : Small2 a) (hb : Small2 b) (hka : k < a.length) (hkb : k < b.length) (hd : a.drop (k + 1) = b.drop (k + 1)) (hlt : a[k]! < b[k]!) : V2 a < V2 b := by
  have h1 := V2_small (l := a.take k) (fun x hx => ha x (List.mem_of_mem_take hx))
  have h2 := V2_small (l := b.take k) (fun x hx => hb x (List.mem_of_mem_take hx))
  rw [List.length_take, Nat.min_eq_left (by omega)] at h1 h2
  rw [V2_split hka, V2_split hkb, hd]
  have hW := W2_pos k
  generalize V2 (b.drop (k + 1)) = z at *
  generalize a[k]! = x at *
  generalize b[k]! = y at *
  have h3 : W2 k * (x + 256 * z + 1) ≤ W2 k * (y + 256 * z) := Int.mul_le_mul_of_nonneg_left (by omega) (by omega)
  rw [Int.mul_add, Int.mul_one] at h3
  omega

/-- L's digits. -/
def od : List Int := [237, 211, 245, 92, 26, 99, 18, 88, 214, 156, 247, 162, 222, 249, 222, 20, 0, 0, 0, 0, 0, 0, 0, 0, 0, 0, 0, 0, 0, 0, 0, 16]
def od33 : List Int := od ++ [0]
theorem od33_small : Small2 od33 := by
  have h : ∀ x ∈ od33, 0 ≤ x ∧ x < 256 := by decide
  exact h
theorem V2_od33 : V2 od33 = 7237005577332262213973186563042994240857116359379907606001950938285454250989 := by decide
theorem od33_len : od33.length = 33 := rfl
theorem od_get : ∀ k : Nat, k < 32 → od[k]! = od33[k]! := by decide

/-- Is it below L? -/
def lowL (l : List Int) : Bool := decide (V2 l < 7237005577332262213973186563042994240857116359379907606001950938285454250989)

theorem lowL_at {l : List Int} (hl : l.length = 33) (hs : Small2 l) {k : Nat} (hk : k < 33) (hd : l.drop (k + 1) = od33.drop (k + 1)) (hne : l[k]! ≠ od33[k]!) : lowL l = decide (l[k]! < od33[k]!) := by
  unfold lowL
  rw [← V2_od33]
  by_cases h : l[k]! < od33[k]!
  · have := V2_lt hs od33_small (by omega) (by rw [od33_len]; omega) hd h
    rw [decide_eq_true this, decide_eq_true h]
  · have := V2_lt od33_small hs (by rw [od33_len]; omega) (by omega) hd.symm (by omega)
    have h2 : ¬ V2 l < V2 od33 := by omega
    rw [decide_eq_false h2, decide_eq_false h]
theorem lowL_eq {l : List Int} (h : l.drop 0 = od33.drop 0) : lowL l = false := by
  rw [List.drop_zero, List.drop_zero] at h
  rw [h]
  decide
theorem drop_eq {l : List Int} (hl : l.length = 33) {k : Nat} (hk : k < 33) (hd : l.drop (k + 1) = od33.drop (k + 1)) (he : l[k]! = od33[k]!) : l.drop k = od33.drop k := by
  have h1 : l.drop k = l[k]! :: l.drop (k + 1) := by rw [List.drop_eq_getElem_cons (by omega), getElem!_pos l k (by omega)]
  have h2 : od33.drop k = od33[k]! :: od33.drop (k + 1) := by rw [List.drop_eq_getElem_cons (by rw [od33_len]; omega), getElem!_pos od33 k (by rw [od33_len]; omega)]
  rw [h1, h2, hd, he]

end Nums
