/-
  PLAIN MATHEMATICS OF LAYER 1 (wire): numbers as eight bytes, and what a reader does to the bytes it has left. No program is imported.
-/
namespace Go.Proofs.Ytipakpcdaaoboaa

/-- The eight bytes of a number, the greatest first. -/
def be8 (v : Nat) : List UInt8 := [UInt8.ofNat (v / 72057594037927936), UInt8.ofNat (v / 281474976710656), UInt8.ofNat (v / 1099511627776), UInt8.ofNat (v / 4294967296), UInt8.ofNat (v / 16777216), UInt8.ofNat (v / 65536), UInt8.ofNat (v / 256), UInt8.ofNat v]

/-- One step of reading a number. -/
def step (a : Nat) (x : UInt8) : Nat := (a * 256 + x.toNat) % 18446744073709551616

/-- The number that bytes are, modulo two to the 64th. -/
def val (l : List UInt8) : Nat := l.foldl step 0

theorem be8_len (v : Nat) : (be8 v).length = 8 := rfl

theorem val_snoc (l : List UInt8) (x : UInt8) : val (l ++ [x]) = step (val l) x := by simp [val]

theorem step_lt (a : Nat) (x : UInt8) : step a x < 18446744073709551616 := Nat.mod_lt _ (by omega)

theorem val_lt (l : List UInt8) : val l < 18446744073709551616 := by
  rcases List.eq_nil_or_concat l with rfl | ⟨l', x, rfl⟩
  · simp [val]
  · rw [List.concat_eq_append, val_snoc]
    exact step_lt _ _

theorem val_be8 (v : Nat) (h : v < 18446744073709551616) : val (be8 v) = v := by
  simp [val, be8, step]
  omega

theorem be8_inj {a b : Nat} (ha : a < 18446744073709551616) (hb : b < 18446744073709551616) (h : be8 a = be8 b) : a = b := by
  rw [← val_be8 a ha, ← val_be8 b hb, h]

/-- What taking k bytes answers, and what is left: bytes left, the failure's number. -/
def tk (l : List UInt8) (f k : Nat) : List UInt8 × List UInt8 × Nat :=
  if f = 0 then (if l.length < k then ([], l, 10) else (l.take k, l.drop k, 0)) else ([], l, f)

theorem tk_fail {l : List UInt8} {f k : Nat} (h : f ≠ 0) : tk l f k = ([], l, f) := by simp [tk, h]
theorem tk_short {l : List UInt8} {k : Nat} (h : l.length < k) : tk l 0 k = ([], l, 10) := by simp [tk, h]
theorem tk_ok {l : List UInt8} {k : Nat} (h : k ≤ l.length) : tk l 0 k = (l.take k, l.drop k, 0) := by
  simp only [tk, if_pos]
  rw [if_neg (by omega)]

def num (l : List UInt8) (f : Nat) : Nat × List UInt8 × Nat := (val (tk l f 8).1, (tk l f 8).2)

def most (l : List UInt8) (f lim : Nat) : Nat × List UInt8 × Nat := if lim < (num l f).1 then (0, (num l f).2.1, 12) else num l f

def byts (l : List UInt8) (f : Nat) : List UInt8 × List UInt8 × Nat := tk (most l f 1048576).2.1 (most l f 1048576).2.2 (most l f 1048576).1

def don (l : List UInt8) (f : Nat) : Nat := if f = 0 then (if l.length = 0 then 0 else 11) else f

theorem num_lt (l : List UInt8) (f : Nat) : (num l f).1 < 18446744073709551616 := val_lt _

theorem most_le (l : List UInt8) (f lim : Nat) : (most l f lim).1 ≤ lim := by
  unfold most
  split
  · exact Nat.zero_le _
  · omega

/-- What is left is never more than what was there. -/
theorem tk_len (l : List UInt8) (f k : Nat) : (tk l f k).2.1.length ≤ l.length ∧ (tk l f k).1.length ≤ l.length ∧ (tk l f k).1.length ≤ k := by
  unfold tk
  repeat' split
  all_goals simp
  all_goals omega

/-- A string's bytes as a list. -/
theorem loop_eq (bs : ByteArray) : ∀ (n i : Nat) (r : List UInt8), bs.size - i = n → ByteArray.toList.loop bs i r = r.reverse ++ bs.data.toList.drop i
  | 0, i, r, h => by
    rw [ByteArray.toList.loop]
    have hs : bs.data.toList.length = bs.size := by simp
    rw [if_neg (by omega), List.drop_eq_nil_of_le (by omega), List.append_nil]
  | n + 1, i, r, h => by
    rw [ByteArray.toList.loop]
    have hs : bs.data.toList.length = bs.size := by simp
    rw [if_pos (by omega), loop_eq bs n (i + 1) _ (by omega)]
    have hi : i < bs.data.toList.length := by omega
    rw [List.drop_eq_getElem_cons hi, List.reverse_cons, List.append_assoc]
    have hg : bs.get! i = bs.data.toList[i] := by
      have : bs.get! i = bs.data[i]! := rfl
      rw [this]
      simp at hi
      simp [hi]
    rw [hg]
    rfl
theorem bytes_toList (bs : ByteArray) : bs.toList = bs.data.toList := by
  unfold ByteArray.toList
  rw [loop_eq bs _ 0 [] rfl]
  rfl

end Go.Proofs.Ytipakpcdaaoboaa
