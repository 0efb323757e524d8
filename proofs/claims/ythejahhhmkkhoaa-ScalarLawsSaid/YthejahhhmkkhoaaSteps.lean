import Derived.Test.YthejahhhmkkhoaaPack
/-
  PLAIN NUMBERS: the carries step by step. No program is imported.
-/
namespace Nums

theorem chain_snoc : ∀ (c : Int) (l : List Int) (d : Int), chain c (l ++ [d]) = ((chain c l).1 ++ [(d + (chain c l).2) % 65536], (d + (chain c l).2) / 65536)
  | c, [], d => rfl
  | c, x :: l, d => by
    have ih := chain_snoc ((x + c) / 65536) l d
    show (((x + c) % 65536) :: (chain ((x + c) / 65536) (l ++ [d])).1, (chain ((x + c) / 65536) (l ++ [d])).2) = _
    rw [ih]
    rfl

def bump (c : Int) : List Int → List Int
  | [] => []
  | d :: ds => (d + c) :: ds

/-- The row when k digits have been carried. -/
def pst (l : List Int) (k : Nat) : List Int := (chain 0 (l.take k)).1 ++ bump (chain 0 (l.take k)).2 (l.drop k)

theorem pst_zero (l : List Int) : pst l 0 = l := by
  unfold pst
  cases l with
  | nil => rfl
  | cons d ds =>
    show (d + 0) :: ds = d :: ds
    rw [Int.add_zero]

theorem bump_len (c : Int) (l : List Int) : (bump c l).length = l.length := by cases l <;> rfl

theorem pst_len (l : List Int) (k : Nat) : (pst l k).length = l.length := by
  unfold pst
  rw [List.length_append, chain_len, bump_len, ← List.length_append, List.take_append_drop]

theorem get_mid (a : List Int) (x : Int) (b : List Int) {k : Nat} (h : a.length = k) : (a ++ x :: b)[k]! = x := by
  subst h
  rw [getElem!_pos _ a.length (by simp), List.getElem_append_right (Nat.le_refl _)]
  simp
theorem set_mid (a : List Int) (x v : Int) (b : List Int) {k : Nat} (h : a.length = k) : (a ++ x :: b).set k v = a ++ v :: b := by
  subst h
  rw [List.set_append_right _ _ (Nat.le_refl _), Nat.sub_self]
  rfl

theorem drop_two {l : List Int} {k : Nat} (h : k + 1 < l.length) : l.drop k = l[k]! :: l[k+1]! :: l.drop (k + 2) := by
  rw [List.drop_eq_getElem_cons (by omega), List.drop_eq_getElem_cons h, getElem!_pos l k (by omega), getElem!_pos l (k+1) h]
theorem take_one {l : List Int} {k : Nat} (h : k < l.length) : l.take (k + 1) = l.take k ++ [l[k]!] := by
  rw [List.take_succ_eq_append_getElem h, getElem!_pos l k h]

theorem pst_split {l : List Int} {k : Nat} (h : k < l.length) : pst l k = (chain 0 (l.take k)).1 ++ (l[k]! + (chain 0 (l.take k)).2) :: l.drop (k + 1) := by
  unfold pst
  rw [List.drop_eq_getElem_cons h, getElem!_pos l k h]
  rfl

theorem pst_next {l : List Int} {k : Nat} (h : k + 1 < l.length) :
    pst l (k + 1) = ((pst l k).set k ((pst l k)[k]! % 65536)).set (k + 1) ((pst l k)[k+1]! + (pst l k)[k]! / 65536) := by
  have hl : (chain 0 (l.take k)).1.length = k := by rw [chain_len, List.length_take]; omega
  have e1 := pst_split (l := l) (k := k) (by omega)
  have e2 : l.drop (k + 1) = l[k+1]! :: l.drop (k + 2) := by rw [List.drop_eq_getElem_cons h, getElem!_pos l (k+1) h]
  have e3 := pst_split (l := l) (k := k + 1) h
  rw [take_one (by omega), chain_snoc] at e3
  rw [e2] at e1
  have g1 : (pst l k)[k]! = l[k]! + (chain 0 (l.take k)).2 := by rw [e1]; exact get_mid _ _ _ hl
  have g2 : (pst l k)[k+1]! = l[k+1]! := by
    rw [e1, show ∀ (a : List Int) x y b, a ++ x :: y :: b = (a ++ [x]) ++ y :: b from fun a x y b => by simp]
    exact get_mid _ _ _ (by simp [hl])
  rw [g1, g2, e3, e1, set_mid _ _ _ _ hl]
  rw [show ∀ (a : List Int) x y b, a ++ x :: y :: b = (a ++ [x]) ++ y :: b from fun a x y b => by simp, set_mid _ _ _ _ (by simp [hl])]

theorem pst_last {l : List Int} (h : l.length = 16) :
    carry l = ((pst l 15).set 15 ((pst l 15)[15]! % 65536)).set 0 ((pst l 15)[0]! + 38 * ((pst l 15)[15]! / 65536)) := by
  have hl : (chain 0 (l.take 15)).1.length = 15 := by rw [chain_len, List.length_take]; omega
  have e1 := pst_split (l := l) (k := 15) (by omega)
  rw [List.drop_eq_nil_of_le (by omega)] at e1
  have e0 : chain 0 l = ((chain 0 (l.take 15)).1 ++ [(l[15]! + (chain 0 (l.take 15)).2) % 65536], (l[15]! + (chain 0 (l.take 15)).2) / 65536) := by
    conv => lhs; rw [take15 h]
    rw [chain_snoc]
  have g1 : (pst l 15)[15]! = l[15]! + (chain 0 (l.take 15)).2 := by rw [e1]; exact get_mid _ _ _ hl
  unfold carry
  rw [g1, e0, e1, set_mid _ _ _ _ hl]
  generalize (chain 0 (l.take 15)).1 = a at *
  generalize (chain 0 (l.take 15)).2 = c at *
  match a, hl with
  | d :: ds, _ => rfl

/-- The digits on the way are bounded. -/
theorem pst_bnd {l : List Int} {k : Nat} (h : k < l.length) (hb : Bnd 2305843009213693952 l) : Bnd 4611686018427387904 (pst l k) := by
  have hV := V_bnd (l := l.take k) (B := 2305843009213693952) (fun x hx => hb x (List.mem_of_mem_take hx))
  have hc := (chain_out 0 (l.take k)).1
  have hW := W_pos (l.take k).length
  have hc2 := div_bound (v := V (l.take k) + 0) (b := 2305843009213693952) hW (by omega) (by omega)
  rw [← hc] at hc2
  rw [pst_split h]
  intro x hx
  rcases List.mem_append.mp hx with hx | hx
  · have := chain_small _ _ x hx
    omega
  · rcases List.mem_cons.mp hx with rfl | hx
    · have := hb l[k]! (by rw [getElem!_pos l k h]; exact List.getElem_mem _)
      omega
    · have := hb x (List.mem_of_mem_drop hx)
      omega

end Nums
