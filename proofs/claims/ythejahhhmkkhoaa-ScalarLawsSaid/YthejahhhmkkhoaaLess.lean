import Derived.Test.YthejahhhmkkhoaaScal
/-
  PLAIN NUMBERS: a number of 33 digits less L, digit by digit. No program is imported.
-/
namespace Nums

theorem V2_snoc (a : List Int) (z : Int) : V2 (a ++ [z]) = V2 a + W2 a.length * z := by
  rw [V2_append]
  show _ + _ * (z + 256 * 0) = _
  rw [Int.mul_zero, Int.add_zero]
theorem V2_take {l : List Int} {i : Nat} (h : i < l.length) : V2 (l.take (i + 1)) = V2 (l.take i) + W2 i * l[i]! := by
  rw [List.take_succ_eq_append_getElem h, V2_snoc, List.length_take, Nat.min_eq_left (by omega), getElem!_pos l i h]
theorem small_get {l : List Int} (hs : Small2 l) {i : Nat} (h : i < l.length) : 0 ≤ l[i]! ∧ l[i]! < 256 := by
  rw [getElem!_pos l i h]
  exact hs _ (List.getElem_mem h)
theorem small_snoc {a : List Int} (ha : Small2 a) {z : Int} (h0 : 0 ≤ z) (h1 : z < 256) : Small2 (a ++ [z]) := fun x hx => by
  rcases List.mem_append.1 hx with h | h
  · exact ha x h
  · rw [List.mem_singleton.1 h]; exact ⟨h0, h1⟩

def sub1 (br : Int) : List Int → List Int
  | [] => []
  | x :: r => (x - br) :: r
theorem sub1_zero : ∀ r, sub1 0 r = r
  | [] => rfl
  | x :: r => by show (x - 0) :: r = x :: r; rw [Int.sub_zero]

/-- The first i digits are done; what is borrowed hangs on the next. -/
def Sb (l out : List Int) (i : Nat) : Prop :=
  ∃ dn br, dn.length = i ∧ Small2 dn ∧ (br = 0 ∨ br = 1) ∧ V2 dn + V2 (od33.take i) = V2 (l.take i) + br * W2 i ∧ out = dn ++ sub1 br (l.drop i)

theorem Sb.start (l : List Int) : Sb l l 0 := by
  refine ⟨[], 0, rfl, ?_, .inl rfl, ?_, ?_⟩
  · intro x h
    cases h
  · simp [V2]
  · rw [sub1_zero]
    rfl

section
variable {l out : List Int} {i : Nat}
theorem Sb.len (h : Sb l out i) (hl : l.length = 33) (hi : i ≤ 33) : out.length = 33 := by
  obtain ⟨dn, br, hd, _, _, _, rfl⟩ := h
  have e : (sub1 br (l.drop i)).length = (l.drop i).length := by cases l.drop i <;> rfl
  rw [List.length_append, e, List.length_drop]
  omega
/-- The digit at hand, and what it becomes. -/
theorem Sb.next (h : Sb l out i) (hl : l.length = 33) (hs : Small2 l) (hi : i < 33) :
    (-1 ≤ out[i]! ∧ out[i]! < 256) ∧ (∀ z, z = out[i]! - od33[i]! → 0 ≤ z → Sb l (out.set i z) (i + 1)) ∧
    (∀ z, z = out[i]! - od33[i]! → z < 0 → i + 1 < 33 → Sb l ((out.set i (z + 256)).set (i + 1) (out[i + 1]! - 1)) (i + 1)) ∧
    (i = 32 → out[i]! < 0 → V2 l < V2 od33) := by
  obtain ⟨dn, br, hd, hdn, hbr, hV, rfl⟩ := h
  have ho := small_get od33_small (i := i) (by rw [od33_len]; exact hi)
  have hx := small_get hs (i := i) (by omega)
  have hdr : l.drop i = l[i]! :: l.drop (i + 1) := by rw [List.drop_eq_getElem_cons (by omega), getElem!_pos l i (by omega)]
  have hlt := V2_take (l := l) (i := i) (by omega)
  have hot := V2_take (l := od33) (i := i) (by rw [od33_len]; exact hi)
  rw [hdr]
  show _ ∧ _
  have eo : (dn ++ sub1 br (l[i]! :: l.drop (i + 1)))[i]! = l[i]! - br := by
    rw [getElem!_pos _ _ (by simp [sub1]; omega), List.getElem_append_right (by omega)]
    simp [sub1, hd]
  rw [eo]
  refine ⟨by omega, ?_, ?_, ?_⟩
  · rintro z rfl hz
    refine ⟨dn ++ [l[i]! - br - od33[i]!], 0, by simp [hd], small_snoc hdn hz (by omega), .inl rfl, ?_, ?_⟩
    · rw [V2_snoc, hd, hlt, hot]
      generalize l[i]! = x at *
      generalize od33[i]! = o at *
      generalize V2 dn = a at *
      generalize V2 (List.take i od33) = b at *
      generalize V2 (List.take i l) = c at *
      generalize W2 i = W at *
      clear hdr
      grind only
    · rw [sub1_zero, ← hd, List.set_append_right _ _ (Nat.le_refl _)]
      simp [sub1]
  · rintro z rfl hz hi1
    have hdr2 : l.drop (i + 1) = l[i + 1]! :: l.drop (i + 1 + 1) := by rw [List.drop_eq_getElem_cons (by omega), getElem!_pos l (i + 1) (by omega)]
    refine ⟨dn ++ [l[i]! - br - od33[i]! + 256], 1, by simp [hd], small_snoc hdn (by omega) (by omega), .inr rfl, ?_, ?_⟩
    · rw [V2_snoc, hd, hlt, hot]
      show _ = _ + 1 * (256 * W2 i)
      generalize l[i]! = x at *
      generalize od33[i]! = o at *
      generalize V2 dn = a at *
      generalize V2 (List.take i od33) = b at *
      generalize V2 (List.take i l) = c at *
      generalize W2 i = W at *
      clear hdr hdr2
      grind only
    · have e1 : (dn ++ sub1 br (l[i]! :: l.drop (i + 1)))[i + 1]! = l[i + 1]! := by
        rw [hdr2, getElem!_pos _ _ (by simp [sub1]; omega), List.getElem_append_right (by omega)]
        simp [sub1, hd]
      rw [e1, hdr2, ← hd, List.set_append_right _ _ (Nat.le_refl _), List.set_append_right _ _ (by omega)]
      simp [sub1]
  · rintro rfl h0
    have hbr1 : br = 1 := by omega
    have hx0 : l[32]! = 0 := by omega
    have hsm := (V2_small hdn).2
    rw [hd] at hsm
    have e33 : l.take 33 = l := List.take_of_length_le (by omega)
    have o33 : od33.take 33 = od33 := List.take_of_length_le (by rw [od33_len]; omega)
    have hod : od33[32]! = 0 := rfl
    rw [show (32 : Nat) + 1 = 33 from rfl, e33, hx0, Int.mul_zero, Int.add_zero] at hlt
    rw [show (32 : Nat) + 1 = 33 from rfl, o33, hod, Int.mul_zero, Int.add_zero] at hot
    rw [hlt, hot]
    subst hbr1
    have h1 := (V2_small hdn).1
    omega
theorem Sb.after (h : Sb l out i) (hl : l.length = 33) (hs : Small2 l) (hi : i + 1 < 33) : 0 ≤ out[i + 1]! ∧ out[i + 1]! < 256 := by
  obtain ⟨dn, br, hd, hdn, hbr, hV, rfl⟩ := h
  have hx := small_get hs (i := i + 1) (by omega)
  have hdr : l.drop i = l[i]! :: l.drop (i + 1) := by rw [List.drop_eq_getElem_cons (by omega), getElem!_pos l i (by omega)]
  have hdr2 : l.drop (i + 1) = l[i + 1]! :: l.drop (i + 1 + 1) := by rw [List.drop_eq_getElem_cons (by omega), getElem!_pos l (i + 1) (by omega)]
  have e1 : (dn ++ sub1 br (l.drop i))[i + 1]! = l[i + 1]! := by
    rw [hdr, hdr2, getElem!_pos _ _ (by simp [sub1]; omega), List.getElem_append_right (by omega)]
    simp [sub1, hd]
  rw [e1]
  exact hx
theorem Sb.last (h : Sb l out 33) (hl : l.length = 33) (hs : Small2 l) (hge : V2 od33 ≤ V2 l) : Small2 out ∧ V2 out = V2 l - V2 od33 := by
  obtain ⟨dn, br, hd, hdn, hbr, hV, rfl⟩ := h
  have e33 : l.take 33 = l := List.take_of_length_le (by omega)
  have o33 : od33.take 33 = od33 := List.take_of_length_le (by rw [od33_len]; omega)
  have d33 : l.drop 33 = [] := List.drop_eq_nil_of_le (by omega)
  have h1 := V2_small hdn
  rw [hd] at h1
  rw [e33, o33] at hV
  rw [d33]
  show Small2 (dn ++ []) ∧ V2 (dn ++ []) = _
  rw [List.append_nil]
  refine ⟨hdn, ?_⟩
  have hW := W2_pos 33
  have h2 := V2_small hs
  rcases hbr with rfl | rfl
  · omega
  · omega
end
end Nums
